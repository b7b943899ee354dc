import PyProof.Rows.All
import PySem.Str
import PySem.Sem
import PyProof.StrBlockL
import PyProof.Rows.Walk
import Wide.All
import OpenK.AllK
import Wide.FinOn
import Lean
import PyProof.EqAt
import PyProof.EqKinds
import PyProof.TupleCall
import PyProof.SeqRoads2
import PyProof.ExcArgs
import KE.KIsAll
import PyProof.DictIter
import PyProof.Rows.CountFlat
import PySem.Challenge.RW_risecount_k10_goings_listed
section
set_option Elab.async false
set_option linter.all false
namespace L3
open PySem
inductive D where
  | non
  | bl (b : Bool)
  | int (i : Int)
  | str (x : Str)
  | tup (xs : List D)
  | lst (xs : List D)
  | scr (ns : List Int)
  | dic (ks : List (Sum Int Str)) (xs : List D)
  | dicT (q : Nat → Obj → Prop) (ks : List (Sum (Sum Int Str) (List (Sum (Sum Int Str) (List (Sum Int Str)))))) (xs : List D)
  | exc (c : Str) (a : Nat)
mutual
noncomputable def D.imm : D → Bool
  | .non => true
  | .bl _ => true
  | .int _ => true
  | .str _ => true
  | .tup ds => imms ds
  | .lst _ => false
  | .scr _ => true
  | .dic _ _ => false
  | .dicT _ _ _ => false
  | .exc _ _ => true
noncomputable def imms : List D → Bool
  | [] => true
  | d :: ds => d.imm && imms ds
end
noncomputable abbrev DEnv := List (Option D)
inductive Sv where
  | no
  | ro (d : D)
  | ow (d : D)
noncomputable abbrev SEnv := List Sv
noncomputable def Sv.all : Sv → Option D
  | .no => none
  | .ro d => some d
  | .ow d => some d
noncomputable def Sv.rd : Sv → Option D
  | .ro d => some d
  | _ => none
noncomputable def vAll (ρ : SEnv) : DEnv := ρ.map Sv.all
noncomputable def vRd (ρ : SEnv) : DEnv := ρ.map Sv.rd
end L3
namespace L4
open PySem L3
inductive M (α : Type) where
  | no
  | ex (c : Str)
  | ok (a : α)
inductive Out where
  | no
  | nx (ρ : SEnv)
  | rt (d : D)
  | ex (c : Str)
noncomputable abbrev EF := DEnv → Option D
noncomputable abbrev TF := DEnv → Option Bool
noncomputable abbrev AF := DEnv → Option (List D)
noncomputable abbrev XF := SEnv → Option (SEnv × D)
noncomputable abbrev SF := SEnv → Out
noncomputable abbrev FnF := List D → M D
noncomputable def szL : Nat := 16777216
noncomputable def eVar (i : Nat) : EF := fun ρ => (ρ[i]?).join
noncomputable def eC (d : D) : EF := fun _ => some d
noncomputable def eBin (g : D → D → Option D) (a b : EF) : EF := fun ρ => (a ρ).bind fun x => (b ρ).bind fun y => g x y
noncomputable def truthM : D → Option Bool
  | .bl b => some b
  | .lst ds => some (!ds.isEmpty)
  | .tup ds => some (!ds.isEmpty)
  | _ => none
noncomputable def tV (f : EF) : TF := fun ρ => (f ρ).bind truthM
noncomputable def tNot (t : TF) : TF := fun ρ => (t ρ).map (!·)
noncomputable def tAnd (t u : TF) : TF := fun ρ => (t ρ).bind fun b => if b = true then u ρ else some false
noncomputable def tOr (t u : TF) : TF := fun ρ => (t ρ).bind fun b => if b = true then some true else u ρ
noncomputable def boolM : D → Option Bool
  | .bl b => some b
  | _ => none
noncomputable def eAnd (a b : EF) : EF := fun ρ => (a ρ).bind fun x => (boolM x).bind fun c => if c = true then b ρ else some (.bl false)
noncomputable def eOr (a b : EF) : EF := fun ρ => (a ρ).bind fun x => (boolM x).bind fun c => if c = true then some (.bl true) else b ρ
noncomputable def eNot (a : EF) : EF := fun ρ => (a ρ).bind fun x => (boolM x).map fun c => .bl (!c)
noncomputable def eIf (t : TF) (a b : EF) : EF := fun ρ => (t ρ).bind fun c => if c = true then a ρ else b ρ
noncomputable def negM : D → Option D
  | .int i => some (.int (-i))
  | _ => none
noncomputable def eNeg (a : EF) : EF := fun ρ => (a ρ).bind negM
noncomputable def eChain (f g : D → D → Option D) (a b c : EF) : EF := fun ρ => (a ρ).bind fun x => (b ρ).bind fun y => (f x y).bind fun z => (boolM z).bind fun k => if k = true then (c ρ).bind fun w => g y w else some (.bl false)
noncomputable def intM (g : Int → Int → D) : D → D → Option D
  | .int i, .int j => some (g i j)
  | _, _ => none
noncomputable def intMC (c : Int → Int → Bool) (g : Int → Int → D) : D → D → Option D
  | .int i, .int j => if c i j = true then some (g i j) else none
  | _, _ => none
noncomputable def addM : D → D → Option D
  | .int i, .int j => some (.int (i + j))
  | .lst a, .lst b => if a.length + b.length ≤ szL then some (.lst (a ++ b)) else none
  | .tup a, .tup b => if a.length + b.length ≤ szL then some (.tup (a ++ b)) else none
  | .str a, .str b => if a.length + b.length ≤ szL then some (.str (a ++ b)) else none
  | _, _ => none
noncomputable def subM : D → D → Option D := intM fun i j => .int (i - j)
noncomputable def mulOk (i j : Int) : Bool := decide (i.natAbs < 18446744073709551616) || decide (j.natAbs < 18446744073709551616) || decide (i.natAbs.log2 + j.natAbs.log2 ≤ 134217700)
noncomputable def mulM : D → D → Option D := intMC mulOk fun i j => .int (i * j)
noncomputable def modM : D → D → Option D := intMC (fun _ j => decide (0 < j)) fun i j => .int (i % j)
noncomputable def divM : D → D → Option D := intMC (fun _ j => decide (0 < j) && decide (j.natAbs < 1073741824)) fun i j => .int (i / j)
noncomputable def powM : D → D → Option D := intMC (fun i j => decide (0 ≤ j) && decide (j.natAbs ≤ 1000000) && decide (i.natAbs < 18446744073709551616)) fun i j => .int (i ^ j.toNat)
noncomputable def ltM : D → D → Option D := intM fun i j => .bl (decide (i < j))
noncomputable def leM : D → D → Option D := intM fun i j => .bl (decide (i ≤ j))
noncomputable def gtM : D → D → Option D := intM fun i j => .bl (decide (j < i))
noncomputable def geM : D → D → Option D := intM fun i j => .bl (decide (j ≤ i))
noncomputable def scalM : D → D → Option Bool
  | .int i, .int j => some (decide (i = j))
  | .bl i, .bl j => some (decide (i = j))
  | .str i, .str j => some (decide (i = j))
  | .non, .non => some true
  | _, _ => none
noncomputable def eqM : D → D → Option D := fun x y => (scalM x y).map .bl
noncomputable def neM : D → D → Option D := fun x y => (scalM x y).map fun b => .bl (!b)
noncomputable def isNon : D → Bool
  | .non => true
  | _ => false
noncomputable def isM : D → D → Option D := fun x y => if isNon y = true then some (.bl (isNon x)) else none
noncomputable def intsOf : List D → Option (List Int)
  | [] => some []
  | .int i :: ds => (intsOf ds).map (i :: ·)
  | _ :: _ => none
noncomputable def blsOf : List D → Option (List Bool)
  | [] => some []
  | .bl i :: ds => (blsOf ds).map (i :: ·)
  | _ :: _ => none
noncomputable def inM (neg : Bool) : D → D → Option D
  | .int i, .tup ds => (intsOf ds).map fun ns => .bl (if neg then !ns.contains i else ns.contains i)
  | .int i, .lst ds => (intsOf ds).map fun ns => .bl (if neg then !ns.contains i else ns.contains i)
  | _, _ => none
noncomputable def ixP (n : Nat) (i : Int) : Option Nat := if 0 ≤ i then (if i < n then some i.toNat else none) else if -(n : Int) ≤ i then some (i + n).toNat else none
noncomputable def atP {α : Type} (xs : List α) (i : Int) : Option α := (ixP xs.length i).bind fun j => xs[j]?
noncomputable def ixM : D → D → Option D
  | .lst a, .int i => atP a i
  | .tup a, .int i => atP a i
  | .scr a, .int i => (atP a i).map D.int
  | _, _ => none
noncomputable def keyM : D → Option (Sum Int Str)
  | .int i => some (.inl i)
  | .str x => some (.inr x)
  | _ => none
noncomputable def lookM (ks : List (Sum Int Str)) (ds : List D) (k : Sum Int Str) : Option D := ((ks.zip ds).find? fun kv => decide (kv.1 = k)).map (·.2)
noncomputable def ixDM : D → D → Option D
  | .dic ks ds, d => (keyM d).bind fun k => lookM ks ds k
  | _, _ => none
noncomputable def aNil : AF := fun _ => some []
noncomputable def aCons (a : EF) (t : AF) : AF := fun ρ => (a ρ).bind fun d => (t ρ).bind fun ds => some (d :: ds)
noncomputable def eTup (t : AF) : EF := fun ρ => (t ρ).bind fun ds => if ds.length ≤ szL then some (.tup ds) else none
noncomputable def eLst (t : AF) : EF := fun ρ => (t ρ).bind fun ds => if ds.length ≤ szL then some (.lst ds) else none
noncomputable def eCB (g : List D → Option D) (t : AF) : EF := fun ρ => (t ρ).bind g
noncomputable def mOpt : M D → Option D
  | .ok d => some d
  | _ => none
noncomputable def eCall (R : FnF) (t : AF) : EF := fun ρ => (t ρ).bind fun ds => mOpt (R ds)
noncomputable def lenM : List D → Option D
  | [.lst a] => some (.int a.length)
  | [.tup a] => some (.int a.length)
  | [.scr a] => some (.int a.length)
  | _ => none
noncomputable def tupleM : List D → Option D
  | [.lst a] => some (.tup a)
  | [.tup a] => some (.tup a)
  | _ => none
noncomputable def listM : List D → Option D
  | [.lst a] => some (.lst a)
  | [.tup a] => some (.lst a)
  | _ => none
noncomputable def insI (a : Int) : List Int → List Int
  | [] => [a]
  | b :: l => if a ≤ b then a :: b :: l else b :: insI a l
noncomputable def sortI : List Int → List Int
  | [] => []
  | a :: l => insI a (sortI l)
noncomputable def sortedM : List D → Option D
  | [.lst a] => (intsOf a).bind fun ns => if ns.length < 64 then some (.lst ((sortI ns).map D.int)) else none
  | _ => none
noncomputable def sumM : List D → Option D
  | [.lst a] => (intsOf a).map fun ns => .int ns.sum
  | _ => none
noncomputable def truths : List D → Option (List Bool)
  | [] => some []
  | d :: ds => (truthM d).bind fun b => (truths ds).map (b :: ·)
noncomputable def allM : List D → Option D
  | [.lst a] => (truths a).map fun bs => .bl (bs.all id)
  | _ => none
noncomputable def anyM : List D → Option D
  | [.lst a] => (truths a).map fun bs => .bl (bs.any id)
  | _ => none
noncomputable def tyM : D → String
  | .non => "NoneType"
  | .bl _ => "bool"
  | .int _ => "int"
  | .str _ => "str"
  | .tup _ => "tuple"
  | .lst _ => "list"
  | .scr _ => "list"
  | .dic _ _ => "dict"
  | .dicT _ _ _ => "dict"
  | .exc _ _ => "NoneType"
noncomputable def isTM (T : String) (d : D) : Bool := tyM d == T || (T == "int" && tyM d == "bool")
noncomputable def notE : D → Bool
  | .exc _ _ => false
  | .dicT _ _ _ => false
  | _ => true
noncomputable def eIsi (T : String) (a : EF) : EF := fun ρ => (a ρ).bind fun d => if notE d = true then some (.bl (isTM T d)) else none
noncomputable def rngP (lo : Int) (n : Nat) : List Int := (List.range n).map fun k : Nat => lo + (k : Int)
noncomputable def rngQ (hi : Int) (n : Nat) : List Int := (List.range n).map fun k : Nat => hi - (k : Int)
noncomputable def eListR (t : AF) : EF := fun ρ => (t ρ).bind fun ds => match ds with
  | [.int j] => if j.natAbs ≤ 16777216 then some (.lst ((rngP 0 j.toNat).map D.int)) else none
  | _ => none
noncomputable def max2M : List D → Option D
  | [.int i, .int j] => some (.int (if j > i then j else i))
  | _ => none
noncomputable def repLM : D → D → Option D
  | .lst a, .int n => if a.length * n.toNat ≤ szL ∧ n.natAbs < 9223372036854775808 then some (.lst (List.replicate n.toNat a).flatten) else none
  | _, _ => none
noncomputable def catM : D → D → Option D
  | .lst a, .lst b => if a.length + b.length ≤ szL then some (.lst (a ++ b)) else none
  | _, _ => none
noncomputable def walkM : D → Option (List D)
  | .lst ds => some ds
  | .tup ds => some ds
  | _ => none
noncomputable def iWalk (f : EF) : AF := fun ρ => (f ρ).bind walkM
noncomputable def rangeM : List D → Option (List D)
  | [.int j] => if j.natAbs < 4611686018427387904 then some ((rngP 0 j.toNat).map D.int) else none
  | [.int i, .int j] => if i.natAbs < 4611686018427387904 ∧ j.natAbs < 4611686018427387904 then some ((rngP i (j - i).toNat).map D.int) else none
  | [.int i, .int j, .int k] => if k = -1 ∧ i.natAbs < 1000000 ∧ j.natAbs < 1000000 then some ((rngQ i (i - j).toNat).map D.int) else none
  | _ => none
noncomputable def iRange (t : AF) : AF := fun ρ => (t ρ).bind rangeM
noncomputable def enumM : List D → Option (List D)
  | [.lst ds] => some (ds.zipIdx.map fun p => .tup [.int (p.2 : Int), p.1])
  | [.tup ds] => some (ds.zipIdx.map fun p => .tup [.int (p.2 : Int), p.1])
  | _ => none
noncomputable def iEnum (t : AF) : AF := fun ρ => (t ρ).bind enumM
noncomputable def zipM : List D → Option (List D)
  | [a, b] => (walkM a).bind fun xs => (walkM b).map fun ys => (xs.zip ys).map fun p => .tup [p.1, p.2]
  | _ => none
noncomputable def iZip (t : AF) : AF := fun ρ => (t ρ).bind zipM
noncomputable def revM : List D → Option (List D)
  | [.lst ds] => some ds.reverse
  | [.tup ds] => some ds.reverse
  | _ => none
noncomputable def iRev (t : AF) : AF := fun ρ => (t ρ).bind revM
noncomputable abbrev GEF := D → DEnv → Option DEnv
noncomputable def g1 (i : Nat) : GEF := fun d ρ => some (ρ.set i (some d))
noncomputable def pairM : D → Option (D × D)
  | .tup [x, y] => some (x, y)
  | _ => none
noncomputable def g2 (i j : Nat) : GEF := fun d ρ => (pairM d).map fun p => (ρ.set i (some p.1)).set j (some p.2)
noncomputable def tTrue : TF := fun _ => some true
noncomputable def benv (nl : Nat) (fr : List Nat) (ρ : DEnv) : DEnv := List.replicate nl none ++ fr.map fun j => (ρ[j]?).join
noncomputable def compF (g : GEF) (t : TF) (e : EF) (ρ : DEnv) : List D → Option (List D)
  | [] => some []
  | d :: ds => (g d ρ).bind fun ρ1 => (t ρ1).bind fun b => if b = true then (e ρ1).bind fun y => (compF g t e ρ ds).map (y :: ·) else compF g t e ρ ds
noncomputable def eComp (nl : Nat) (fr : List Nat) (it : AF) (g : GEF) (t : TF) (e : EF) : EF := fun ρ => (it ρ).bind fun ds => if ds.length ≤ szL then (compF g t e (benv nl fr ρ) ds).map D.lst else none
noncomputable abbrev OF := DEnv → Option (Option Int)
noncomputable def oNo : OF := fun _ => some none
noncomputable def asInt : D → Option Int
  | .int i => some i
  | _ => none
noncomputable def oE (f : EF) : OF := fun ρ => (f ρ).bind fun d => (asInt d).map some
noncomputable def sIxP (n d : Nat) : Option Int → Nat
  | none => d
  | some i => if i < 0 then (i + n).toNat else min i.toNat n
noncomputable def cutP (xs : List D) (lo hi : Option Int) : List D := (xs.drop (sIxP xs.length 0 lo)).take (sIxP xs.length xs.length hi - sIxP xs.length 0 lo)
noncomputable def slM (d : D) (lo hi : Option Int) : Option D := match d with
  | .lst ds => some (.lst (cutP ds lo hi))
  | .tup ds => some (.tup (cutP ds lo hi))
  | _ => none
noncomputable def eSl (f : EF) (lo hi : OF) : EF := fun ρ => (f ρ).bind fun d => (lo ρ).bind fun l => (hi ρ).bind fun h => slM d l h
noncomputable def xPure (f : EF) : XF := fun ρ => (f (vAll ρ)).bind fun d => if d.imm = true then some (ρ, d) else none
noncomputable def xPureR (f : EF) : XF := fun ρ => (f (vRd ρ)).bind fun d => some (ρ, d)
noncomputable def ownL : Option Sv → Option (List D)
  | some (.ow (.lst ds)) => some ds
  | _ => none
noncomputable def xM1 (i : Nat) (m : List D → D → Option (List D × D)) (x : XF) : XF := fun ρ => (ownL ρ[i]?).bind fun _ => (x ρ).bind fun p => (ownL p.1[i]?).bind fun ds => (m ds p.2).map fun q => (p.1.set i (.ow (.lst q.1)), q.2)
noncomputable def appM : List D → D → Option (List D × D) := fun ds d => if ds.length < szL then some (ds ++ [d], .non) else none
noncomputable def popM : List D → D → Option (List D × D)
  | ds, .int k => if k.natAbs < 9223372036854775808 then (ixP ds.length k).bind fun j => (ds[j]?).map fun d => (ds.eraseIdx j, d) else none
  | _, _ => none
noncomputable def extM : List D → D → Option (List D × D)
  | ds, .lst es => if ds.length + es.length ≤ szL then some (ds ++ es, .non) else none
  | _, _ => none
noncomputable def xPop0 (i : Nat) : XF := fun ρ => (ownL ρ[i]?).bind fun ds => (ds[ds.length - 1]?).map fun d => (ρ.set i (.ow (.lst ds.dropLast)), d)
noncomputable def sEnd : SF := fun ρ => .nx ρ
noncomputable def sSeq (f g : SF) : SF := fun ρ => match f ρ with
  | .nx ρ' => g ρ'
  | o => o
noncomputable def sRet (f : EF) : SF := fun ρ => match f (vAll ρ) with
  | some d => .rt d
  | none => .no
noncomputable def sIf (t : TF) (a b : SF) : SF := fun ρ => match t (vAll ρ) with
  | some true => a ρ
  | some false => b ρ
  | none => .no
noncomputable def sSet (i : Nat) (f : EF) : SF := fun ρ => match f (vRd ρ) with
  | some d => .nx (ρ.set i (.ro d))
  | none => .no
noncomputable def sSetX (i : Nat) (x : XF) : SF := fun ρ => match x ρ with
  | some p => .nx (p.1.set i (.ro p.2))
  | none => .no
noncomputable def sOwn (i : Nat) (f : EF) : SF := fun ρ => match f (vRd ρ) with
  | some d => .nx (ρ.set i (.ow d))
  | none => .no
noncomputable def lstImm : D → Bool
  | .lst ds => imms ds
  | _ => false
noncomputable def sOwnI (i : Nat) (f : EF) : SF := fun ρ => match f (vAll ρ) with
  | some d => if lstImm d = true then .nx (ρ.set i (.ow d)) else .no
  | none => .no
noncomputable def sSetF (i : Nat) (f : EF) : SF := fun ρ => match f (vAll ρ) with
  | some d => if lstImm d = true then .nx (ρ.set i (.ro d)) else .no
  | none => .no
noncomputable def sOwnD (i : Nat) : SF := fun ρ => .nx (ρ.set i (.ow (.dic [] [])))
noncomputable def sX (x : XF) : SF := fun ρ => match x ρ with
  | some p => .nx p.1
  | none => .no
noncomputable def sPut (i : Nat) (x : XF) (k : EF) : SF := fun ρ => match ((x ρ).bind fun p => (ownL p.1[i]?).bind fun ds => (k (vAll p.1)).bind fun kd => (asInt kd).bind fun kk => (ixP ds.length kk).map fun j => p.1.set i (.ow (.lst (ds.set j p.2)))) with
  | some ρ' => .nx ρ'
  | none => .no
noncomputable def ownDic : Option Sv → Option (List (Sum Int Str) × List D)
  | some (.ow (.dic ks ds)) => some (ks, ds)
  | _ => none
noncomputable def sPutN (i : Nat) (x : XF) (k : EF) : SF := fun ρ => match ((x ρ).bind fun p => (ownDic p.1[i]?).bind fun kd => (k (vAll p.1)).bind fun kv => (keyM kv).bind fun kk =>
    if (lookM kd.1 kd.2 kk).isNone = true ∧ kd.2.length < szL then some (p.1.set i (.ow (.dic (kd.1 ++ [kk]) (kd.2 ++ [p.2])))) else none) with
  | some ρ' => .nx ρ'
  | none => .no
noncomputable abbrev GSF := D → SEnv → Option SEnv
noncomputable def gN1 (i : Nat) : GSF := fun d ρ => some (ρ.set i (.ro d))
noncomputable def gN2 (i j : Nat) : GSF := fun d ρ => (pairM d).map fun p => (ρ.set i (.ro p.1)).set j (.ro p.2)
noncomputable def loopF (g : GSF) (b : SF) : List D → SEnv → Out
  | [], ρ => .nx ρ
  | d :: ds, ρ => match g d ρ with
    | none => .no
    | some ρ1 => match b ρ1 with
      | .nx ρ2 => loopF g b ds ρ2
      | o => o
noncomputable def sFor (it : AF) (g : GSF) (b : SF) : SF := fun ρ => match it (vRd ρ) with
  | some ds => loopF g b ds ρ
  | none => .no
noncomputable def whileF (t : TF) (b : SF) : Nat → SEnv → Out
  | 0, _ => .no
  | n + 1, ρ => match t (vAll ρ) with
    | none => .no
    | some false => .nx ρ
    | some true => match b ρ with
      | .nx ρ' => whileF t b n ρ'
      | o => o
noncomputable def whileN : Nat := 1000000
noncomputable def sWhile (n : Nat) (t : TF) (b : SF) : SF := whileF t b n
noncomputable def startS (n : Nat) (ds : List D) : SEnv := ds.map Sv.ro ++ List.replicate (n - ds.length) Sv.no
noncomputable def runF (n np : Nat) (b : SF) : FnF := fun ds => if ds.length = np then (match b (startS n ds) with
  | .rt d => .ok d
  | .nx _ => .ok .non
  | .ex c => .ex c
  | .no => .no) else .no
end L4
end
section
set_option Elab.async false
set_option linter.all false
set_option maxRecDepth 100000
namespace L4
open PySem L3
noncomputable def lexI : List Int → List Int → Bool
  | [], [] => false
  | [], _ :: _ => true
  | _ :: _, [] => false
  | a :: as, b :: bs => if a = b then lexI as bs else decide (a < b)
noncomputable def insT (t : List Int) : List (List Int) → List (List Int)
  | [] => [t]
  | u :: us => if lexI u t = true then u :: insT t us else t :: u :: us
noncomputable def sortT : List (List Int) → List (List Int)
  | [] => []
  | t :: ts => insT t (sortT ts)
noncomputable def tupD (t : List Int) : D := .tup (t.map D.int)
noncomputable def tupOf : D → Option (List Int)
  | .tup ds => intsOf ds
  | _ => none
noncomputable def tupsOf : List D → Option (List (List Int))
  | [] => some []
  | d :: ds => (tupOf d).bind fun t => (tupsOf ds).map (t :: ·)
noncomputable def sortTM : List D → Option D
  | [.lst a] => (tupsOf a).bind fun ts => if ts.length < 64 ∧ ts.all (fun t => !t.isEmpty) = true then some (.lst ((sortT ts).map tupD)) else none
  | _ => none
end L4
end
section
set_option Elab.async false
set_option linter.all false
set_option maxRecDepth 100000
namespace L4
open PySem L3
noncomputable def eqPs (f : D → D → Option Bool) : List D → List D → Option Bool
  | d :: ds, e :: es => (f d e).bind fun x => (eqPs f ds es).map (x && ·)
  | _, _ => some true
noncomputable def eqP : Nat → D → D → Option Bool
  | _, .int i, .int j => some (decide (i = j))
  | _, .bl i, .bl j => if i = j then some true else none
  | _, .str i, .str j => if i = j then some true else none
  | n + 1, .tup a, .tup b => (eqPs (eqP n) a b).map fun r => r && decide (a.length = b.length)
  | _, _, _ => none
noncomputable def eqTM : D → D → Option D := fun x y => (eqP 8 x y).map D.bl
end L4
end
section
set_option Elab.async false
set_option linter.all false
set_option maxRecDepth 100000
namespace L4
open PySem L3
noncomputable def frzM (ρ : SEnv) (i : Nat) : SEnv := match ρ[i]? with
  | some (.ow d) => ρ.set i (.ro d)
  | _ => ρ
noncomputable def sFrz (i : Nat) (f : SF) : SF := fun ρ => f (frzM ρ i)
noncomputable def sortUM : List D → Option D
  | [.lst [d]] => some (.lst [d])
  | ds => sortTM ds
end L4
namespace L4
open PySem L3
noncomputable def sumTM : List D → Option D
  | [.tup a] => (intsOf a).map fun ns => .int ns.sum
  | _ => none
end L4
end
section
set_option Elab.async false
set_option linter.all false
set_option maxRecDepth 100000
namespace L4
open PySem L3
noncomputable abbrev RF := DEnv → Option Str
noncomputable def exOf : M D → Option Str
  | .ex c => some c
  | _ => none
noncomputable def rCall (R : FnF) (t : AF) : RF := fun ρ => (t ρ).bind fun ds => exOf (R ds)
noncomputable def sThr (r : RF) (f : SF) : SF := fun ρ => match r (vAll ρ) with
  | some c => .ex c
  | none => f ρ
end L4
namespace L4
open PySem L3
noncomputable def sRaiseA (t : AF) (c : Str) : SF := fun ρ => match t (vAll ρ) with
  | some ds => if ds.length ≤ 10 then .ex c else .no
  | none => .no
end L4
namespace L4
open PySem L3
noncomputable def eIsE (c : Str) (e : Nat) (b : Bool) (i : Nat) : EF := fun ρ => match eVar i ρ with
  | some (.exc c' a) => if c' = c ∧ a = e then some (.bl b) else none
  | _ => none
theorem eIsE_of {c : Str} {e i : Nat} {b : Bool} {ρ : DEnv} {d : D} (h : eIsE c e b i ρ = some d) : eVar i ρ = some (.exc c e) ∧ d = .bl b := by
  unfold eIsE at h
  split at h
  · rename_i c' a q
    by_cases z : c' = c ∧ a = e
    · rw [if_pos z] at h
      cases h
      rw [q, z.1, z.2]
      exact ⟨rfl, rfl⟩
    · rw [if_neg z] at h; cases h
  · cases h
end L4
namespace L4
open PySem L3
end L4
namespace L4
open PySem L3
end L4
end
section
set_option Elab.async false
set_option linter.all false
set_option maxRecDepth 100000
namespace L4
open PySem L3
noncomputable def splitM : D → D → Option D
  | .str x, .str y => if x.length + 2 ≤ szL ∧ (y.length == 0) = false then some (.lst ((Txt.split x y).map D.str)) else none
  | _, _ => none
end L4
end
section
set_option Elab.async false
set_option linter.all false
set_option maxRecDepth 100000
namespace L4
open PySem L3
noncomputable def revSM : D → Option D
  | .lst ds => some (.lst ds.reverse)
  | _ => none
noncomputable def eqLB : D → D → Option Bool
  | .lst a, .lst b => (intsOf a).bind fun x => (intsOf b).map fun y => decide (x = y)
  | _, _ => none
end L4
end
section
set_option Elab.async false
set_option linter.all false
set_option maxRecDepth 100000
namespace L4
open PySem L3
end L4
end
section
set_option Elab.async false
set_option linter.all false
set_option maxRecDepth 100000
namespace L4
open PySem L3
noncomputable def sNox (f : SF) : SF := fun ρ => match f ρ with
  | .ex _ => .no
  | o => o
end L4
end
section
set_option Elab.async false
set_option linter.all false
set_option maxRecDepth 100000
namespace L4
open PySem L3
noncomputable def putN (ns : List Int) (k : Int) : List Int := if k ∈ ns then ns else ns ++ [k]
noncomputable def nubI (ns : List Int) : List Int := ns.foldl putN []
end L4
end
section
set_option Elab.async false
set_option linter.all false
set_option maxRecDepth 100000
namespace L4
open PySem L3
end L4
end
section
set_option Elab.async false
set_option linter.all false
set_option maxRecDepth 100000
namespace L4
open PySem L3
noncomputable def sortedPM : List D → Option D
  | [.tup ds] => (intsOf ds).bind fun ns => if ns.length < 64 then some (.lst ((sortI ns).map D.int)) else none
  | _ => none
end L4
end
section
set_option Elab.async false
set_option linter.all false
namespace L4
open PySem L3
noncomputable abbrev anyO : Nat → Obj → Prop := fun _ _ => True
noncomputable def adr (q : Nat → Obj → Prop) : Nat → Obj → Prop := fun a _ => ∃ o, q a o
noncomputable abbrev PKey := Sum Int Str
noncomputable abbrev PN1 := List (Sum PKey (List PKey))
noncomputable abbrev PKX := Sum PKey PN1
noncomputable def keysD : List D → Option (List PKey)
  | [] => some []
  | d :: ds => (keyM d).bind fun k => (keysD ds).map (k :: ·)
noncomputable def itemD : D → Option (Sum PKey (List PKey))
  | .tup ds => (keysD ds).map .inr
  | d => (keyM d).map .inl
noncomputable def itemsD : List D → Option PN1
  | [] => some []
  | d :: ds => (itemD d).bind fun k => (itemsD ds).map (k :: ·)
noncomputable def keyX : D → Option PKX
  | .tup ds => (itemsD ds).map .inr
  | d => (keyM d).map .inl
noncomputable def lookX (ks : List PKX) (ds : List D) (k : PKX) : Option D := ((ks.zip ds).find? fun p => decide (p.1 = k)).map (·.2)
noncomputable def kindB (ks : List PKX) (k : PKX) : Bool := ks.all fun q => q.isLeft == k.isLeft
noncomputable def ixXM : D → D → Option D
  | .dicT _ ks ds, d => (keyX d).bind fun k => if kindB ks k = true then lookX ks ds k else none
  | _, _ => none
noncomputable def inXM (neg : Bool) : D → D → Option D
  | d, .dicT _ ks ds => (keyX d).bind fun k => if kindB ks k = true then some (.bl (if neg then !(lookX ks ds k).isSome else (lookX ks ds k).isSome)) else none
  | _, _ => none
noncomputable def putX (ks : List PKX) (ds : List D) (k : PKX) (v : D) : List PKX × List D :=
  if ks.any (fun q => decide (q = k)) = true then (ks, (ks.zip ds).map fun p => if p.1 = k then v else p.2) else (ks ++ [k], ds ++ [v])
noncomputable def ownX : Option Sv → Option ((Nat → Obj → Prop) × List PKX × List D)
  | some (.ow (.dicT q ks ds)) => some (q, ks, ds)
  | _ => none
noncomputable def sOwnX (i : Nat) : SF := fun ρ => .nx (ρ.set i (.ow (.dicT anyO [] [])))
noncomputable def sPutX (i : Nat) (x : XF) (k : EF) : SF := fun ρ => match ((x ρ).bind fun p => (ownX p.1[i]?).bind fun kd => (k (vAll p.1)).bind fun kv => (keyX kv).bind fun kk =>
    if kindB kd.2.1 kk = true ∧ kd.2.2.length < szL then some (p.1.set i (.ow (.dicT (adr kd.1) (putX kd.2.1 kd.2.2 kk p.2).1 (putX kd.2.1 kd.2.2 kk p.2).2))) else none) with
  | some ρ' => .nx ρ'
  | none => .no
noncomputable def zipLM : List D → Option (List D)
  | [.lst xs, .lst ys] => some ((xs.zip ys).map fun p => .tup [p.1, p.2])
  | _ => none
noncomputable def iZipL (t : AF) : AF := fun ρ => (t ρ).bind zipLM
noncomputable def minP : List Int → Int
  | [] => 0
  | a :: l => l.foldl (fun m b => if b < m then b else m) a
noncomputable def min1M : List D → Option D
  | [.tup ds] => (intsOf ds).bind fun ns => if ns = [] then none else some (.int (minP ns))
  | _ => none
noncomputable def eqLM : D → D → Option D := fun x y => (eqLB x y).map D.bl
noncomputable abbrev KD := List PKX × List D
noncomputable abbrev FnM := List D → KD → M (D × KD)
noncomputable def startM (n : Nat) (ds : List D) (q : Nat → Obj → Prop) (kd : KD) : SEnv := ds.map Sv.ro ++ Sv.ow (.dicT q kd.1 kd.2) :: List.replicate (n - (ds.length + 1)) Sv.no
noncomputable def retM (j : Nat) (k : EF) (q : Nat → Obj → Prop) : SEnv → Option (D × KD) := fun ρ => (ownX ρ[j]?).bind fun kd => (k (vRd ρ)).bind fun kv => (keyX kv).bind fun kk => @ite _ (kindB kd.2.1 kk = true ∧ ∀ a o, kd.1 a o → ∃ o2, q a o2) (Classical.propDecidable _) ((lookX kd.2.1 kd.2.2 kk).map fun d => (d, kd.2)) none
noncomputable def bodyM (n np : Nat) (b : SF) (k : EF) (q : Nat → Obj → Prop) (ds : List D) (kd : KD) : Option (D × KD) := if ds.length + 1 = np then (match b (startM n ds q kd) with
  | .nx ρ => retM (np - 1) k q ρ
  | _ => none) else none
noncomputable def runM (n np : Nat) (b : SF) (k : EF) : FnM := fun ds kd => @dite _ (∃ r, ∀ q, bodyM n np b k q ds kd = some r) (Classical.propDecidable _) (fun h => .ok h.choose) fun _ => .no
noncomputable def stepM (R : FnM) (t : AF) (j : Nat) (ρ : SEnv) : Option ((Nat → Obj → Prop) × D × KD) := (t (vRd ρ)).bind fun ds => (ownX ρ[j]?).bind fun kd => match R ds kd.2 with
  | .ok r => some (kd.1, r)
  | _ => none
noncomputable def sCallM (i : Nat) (R : FnM) (t : AF) (j : Nat) : SF := fun ρ => match stepM R t j ρ with
  | some r => .nx ((ρ.set j (.ow (.dicT (adr r.1) r.2.2.1 r.2.2.2))).set i (.ro r.2.1))
  | none => .no
noncomputable def sDoM (R : FnM) (t : AF) (j : Nat) : SF := fun ρ => match stepM R t j ρ with
  | some r => .nx (ρ.set j (.ow (.dicT (adr r.1) r.2.2.1 r.2.2.2)))
  | none => .no
end L4
end
section
set_option Elab.async false
set_option linter.all false
namespace L4
open PySem L3
end L4
end
section
set_option Elab.async false
set_option linter.all false
set_option maxRecDepth 100000
namespace L4
open PySem L3
end L4
end
section
set_option Elab.async false
set_option linter.all false
set_option maxRecDepth 100000
namespace L4
open PySem L3
noncomputable def sTryN (fb : SF) (fh : Str → Option SEnv) (fr : SF) : SF := fun ρ => match fb ρ with
  | .ex c => (match fh c with
    | some ρ1 => (match fr ρ1 with
      | .rt d => .rt d
      | _ => .no)
    | none => .no)
  | .nx ρ' => fr ρ'
  | .rt d => .rt d
  | .no => .no
noncomputable def countTM : D → D → Option D
  | .lst ds, .bl true => (blsOf ds).map fun bs => .int ((bs.filter id).length : Nat)
  | _, _ => none
noncomputable def indexTM : D → D → Option D
  | .lst ds, .bl true => (blsOf ds).bind fun bs => (bs.findIdx? id).map fun i : Nat => .int (i : Int)
  | _, _ => none
end L4
end
section
set_option Elab.async false
set_option linter.all false
set_option maxRecDepth 100000
namespace Ord
structure Rows (rows : List (List Int)) : Prop where
  up : ∀ (b : Nat) (r : List Int), rows[b]? = some r → r.Pairwise (· < ·)
  rng : ∀ (b : Nat) (r : List Int), rows[b]? = some r → ∀ a ∈ r, 0 ≤ a ∧ a < (rows.length : Int)
  tr : ∀ (b a : Nat) (r v : List Int), rows[b]? = some r → (a : Int) ∈ r → rows[a]? = some v → ∀ c ∈ v, c ∈ r
  irr : ∀ (b : Nat) (r : List Int), rows[b]? = some r → (b : Int) ∉ r
theorem cons_erase {α : Type} : ∀ (l : List α) (j : Nat) (x : α), l[j]? = some x → (x :: l.eraseIdx j).Perm l
  | [], j, x, h => by simp at h
  | a :: l, 0, x, h => by simp at h; subst h; simp
  | a :: l, j + 1, x, h => by
    have ih := cons_erase l j x (by simpa using h)
    rw [List.eraseIdx_cons_succ]
    exact (List.Perm.swap a x _).trans (ih.cons a)
theorem nodup_filter {l : List Int} (p : Int → Bool) (h : l.Nodup) : (l.filter p).Nodup := List.Pairwise.filter p h
noncomputable def Under (word : List Int) (us : List (List Int)) (t : Nat) (u : List Int) : Prop :=
  u.Nodup ∧ ∀ a ∈ u, ∃ (s : Nat) (v : List Int), s < t ∧ word[s]? = some a ∧ us[s]? = some v ∧ ∀ c ∈ v, c ∈ u
noncomputable def Good (word : List Int) (us : List (List Int)) : Prop := ∀ (t : Nat) (u : List Int), us[t]? = some u → Under word us t u
theorem Under.mono {word : List Int} {us : List (List Int)} {t t' : Nat} {u : List Int} (h : Under word us t u) (ht : t ≤ t') : Under word us t' u :=
  ⟨h.1, fun a ha => by obtain ⟨s, v, h1, h2, h3, h4⟩ := h.2 a ha; exact ⟨s, v, by omega, h2, h3, h4⟩⟩
theorem ix_inj {word : List Int} (h : word.Nodup) {i j : Nat} {a : Int} (hi : word[i]? = some a) (hj : word[j]? = some a) : i = j := by
  obtain ⟨h1, e1⟩ := List.getElem?_eq_some_iff.mp hi
  obtain ⟨h2, e2⟩ := List.getElem?_eq_some_iff.mp hj
  exact (List.getElem_inj h).mp (e1.trans e2.symm)
theorem Under.step {word : List Int} {us : List (List Int)} {i : Nat} {u v : List Int} {x : Int} (hw : word.Nodup) (g : Good word us) (h : Under word us i u) (hx : word[i]? = some x) (hv : us[i]? = some v) :
    Under word us (i + 1) (u ++ (v ++ [x]).filter fun a => !u.contains a) := by
  have gv := g i v hv
  have mem : ∀ c, c ∈ v ++ [x] → c ∈ u ++ (v ++ [x]).filter fun a => !u.contains a := fun c hc => by
    by_cases hu : c ∈ u
    · exact List.mem_append_left _ hu
    · exact List.mem_append_right _ (List.mem_filter.mpr ⟨hc, by simpa using hu⟩)
  have nv : (v ++ [x]).Nodup := by
    refine List.nodup_append.mpr ⟨gv.1, by simp, fun a ha b hb e => ?_⟩
    have hb := List.mem_singleton.mp hb
    subst hb
    subst e
    obtain ⟨s, _, h1, h2, _⟩ := gv.2 a ha
    have := ix_inj hw h2 hx
    omega
  refine ⟨List.nodup_append.mpr ⟨h.1, nodup_filter _ nv, fun a ha b hb e => ?_⟩, fun a ha => ?_⟩
  · subst e
    have := (List.mem_filter.mp hb).2
    simp at this
    exact this ha
  · rcases List.mem_append.mp ha with h1 | h1
    · obtain ⟨s, z, a1, a2, a3, a4⟩ := h.2 a h1
      exact ⟨s, z, by omega, a2, a3, fun c hc => List.mem_append_left _ (a4 c hc)⟩
    · rcases List.mem_append.mp (List.mem_filter.mp h1).1 with h2 | h2
      · obtain ⟨s, z, a1, a2, a3, a4⟩ := gv.2 a h2
        exact ⟨s, z, by omega, a2, a3, fun c hc => mem c (List.mem_append_left _ (a4 c hc))⟩
      · have e := List.mem_singleton.mp h2
        subst e
        exact ⟨i, v, by omega, hx, hv, fun c hc => mem c (List.mem_append_left _ hc)⟩
theorem Good.snoc {word : List Int} {us : List (List Int)} {u : List Int} (g : Good word us) (h : Under word us us.length u) : Good word (us ++ [u]) := fun t z e => by
  have old : ∀ {s : Nat} {v : List Int}, us[s]? = some v → (us ++ [u])[s]? = some v := fun {s v} e => by rw [List.getElem?_append_left (List.getElem?_eq_some_iff.mp e).1]; exact e
  have up : ∀ {t : Nat} {z : List Int}, Under word us t z → Under word (us ++ [u]) t z := fun {t z} q => ⟨q.1, fun a ha => by obtain ⟨s, v, a1, a2, a3, a4⟩ := q.2 a ha; exact ⟨s, v, a1, a2, old a3, a4⟩⟩
  by_cases ht : t < us.length
  · rw [List.getElem?_append_left ht] at e
    exact up (g t z e)
  · have et : t = us.length := by
      have := (List.getElem?_eq_some_iff.mp e).1
      simp at this
      omega
    subst et
    rw [List.getElem?_append_right (Nat.le_refl _), Nat.sub_self] at e
    have e : u = z := by simpa using e
    subst e
    exact up h
theorem Good.rows {word : List Int} {us rows : List (List Int)} {n : Nat} (g : Good word us) (hu : us.length = n) (hw : word.Perm ((List.range n).map fun k : Nat => (k : Int))) (hr : rows.length = n)
    (h : ∀ (b t : Nat) (r u : List Int), rows[b]? = some r → word[t]? = some (b : Int) → us[t]? = some u → r.Perm u ∧ r.Pairwise (· ≤ ·)) : Rows rows := by
  have nd : word.Nodup := hw.nodup_iff.mpr (by
    refine List.Pairwise.map _ (fun a b hab => ?_) List.nodup_range
    intro e
    exact hab (by omega))
  have find : ∀ (b : Nat), b < n → ∃ t u, word[t]? = some (b : Int) ∧ us[t]? = some u := fun b hb => by
    have hm : (b : Int) ∈ word := hw.mem_iff.mpr (List.mem_map.mpr ⟨b, List.mem_range.mpr hb, rfl⟩)
    obtain ⟨t, ht⟩ := List.mem_iff_getElem?.mp hm
    have hl : word.length = n := by rw [hw.length_eq, List.length_map, List.length_range]
    have := (List.getElem?_eq_some_iff.mp ht).1
    exact ⟨t, us[t]'(by omega), ht, List.getElem?_eq_getElem (by omega)⟩
  have row : ∀ (b : Nat) (r : List Int), rows[b]? = some r → ∃ t u, word[t]? = some (b : Int) ∧ us[t]? = some u ∧ r.Perm u ∧ r.Pairwise (· ≤ ·) := fun b r e => by
    have hb := (List.getElem?_eq_some_iff.mp e).1
    obtain ⟨t, u, h1, h2⟩ := find b (by omega)
    exact ⟨t, u, h1, h2, h b t r u e h1 h2⟩
  refine ⟨fun b r e => ?_, fun b r e a ha => ?_, fun b a r v e ha ev c hc => ?_, fun b r e hb => ?_⟩
  · obtain ⟨t, u, h1, h2, h3, h4⟩ := row b r e
    have n1 : r.Nodup := h3.nodup_iff.mpr (g t u h2).1
    exact (List.pairwise_and_iff.mpr ⟨h4, n1⟩).imp fun q => by have := q.1; have := q.2; omega
  · obtain ⟨t, u, h1, h2, h3, h4⟩ := row b r e
    obtain ⟨s, z, _, a2, _⟩ := (g t u h2).2 a (h3.mem_iff.mp ha)
    have hm := hw.mem_iff.mp (List.mem_of_getElem? a2)
    obtain ⟨k, hk, rfl⟩ := List.mem_map.mp hm
    have := List.mem_range.mp hk
    omega
  · obtain ⟨t, u, h1, h2, h3, h4⟩ := row b r e
    obtain ⟨t2, u2, k1, k2, k3, k4⟩ := row a v ev
    obtain ⟨s, z, _, a2, a3, a4⟩ := (g t u h2).2 _ (h3.mem_iff.mp ha)
    have es := ix_inj nd a2 k1
    subst es
    rw [k2] at a3
    cases a3
    exact h3.mem_iff.mpr (a4 c (k3.mem_iff.mp hc))
  · obtain ⟨t, u, h1, h2, h3, h4⟩ := row b r e
    obtain ⟨s, z, a1, a2, _⟩ := (g t u h2).2 _ (h3.mem_iff.mp hb)
    have := ix_inj nd a2 h1
    omega
noncomputable def tri : Nat → Nat
  | 0 => 0
  | j + 1 => tri j + j
theorem tri_le {i j : Nat} (h : i ≤ j) : tri i ≤ tri j := by
  induction h with
  | refl => exact Nat.le_refl _
  | step _ ih => exact Nat.le_trans ih (Nat.le_add_right _ _)
theorem tri_lt {n j i : Nat} (hj : j < n) (hi : i < j) : tri j + i < tri n := by
  have := tri_le (show j + 1 ≤ n by omega)
  show tri j + i < tri n
  have e : tri (j + 1) = tri j + j := rfl
  omega
theorem length_sub : ∀ (l m : List Int), l.Nodup → (∀ a ∈ l, a ∈ m) → l.length ≤ m.length
  | [], m, _, _ => Nat.zero_le _
  | a :: l, m, h, hs => by
    obtain ⟨h1, h2⟩ := List.nodup_cons.mp h
    have ha := hs a List.mem_cons_self
    have ih := length_sub l (m.erase a) h2 fun b hb => by
      have : b ≠ a := fun e => h1 (e ▸ hb)
      exact (List.mem_erase_of_ne this).mpr (hs b (List.mem_cons_of_mem _ hb))
    rw [List.length_erase_of_mem ha] at ih
    have : 0 < m.length := List.length_pos_of_mem ha
    rw [List.length_cons]
    omega
end Ord
end
section
set_option Elab.async false
set_option linter.all false
set_option maxRecDepth 100000
namespace LL
open PySem L3 L4
noncomputable def f_l_cell : FnF := runF 2 2
    (sSeq (sIf (tV (eBin eqM (eCB lenM (aCons (eVar 0) aNil)) (eC (.int 0))))
      (sRet (eC (.int 0)))
      sEnd)
    (sRet (eBin ixM (eVar 0) (eBin modM (eVar 1) (eCB lenM (aCons (eVar 0) aNil))))))
noncomputable def f_l_mixed : FnF := runF 5 3
    (sSeq (sSet 3 (eBin modM (eBin mulM (eBin addM (eBin addM (eBin addM (eVar 0) (eBin mulM (eBin mulM (eC (.int 11)) (eVar 1)) (eVar 1))) (eBin mulM (eC (.int 17)) (eVar 1))) (eVar 2)) (eC (.int 48271))) (eC (.int 2147483647))))
    (sSeq (sSet 4 (eBin modM (eBin addM (eBin addM (eBin mulM (eVar 3) (eBin addM (eBin divM (eVar 3) (eC (.int 4096))) (eC (.int 5)))) (eBin mulM (eC (.int 29)) (eVar 1))) (eVar 2)) (eC (.int 2147483629))))
    (sRet (eBin modM (eBin mulM (eVar 4) (eC (.int 39373))) (eC (.int 1000000007))))))
noncomputable def f_l_draws : FnF := runF 6 3
    (sSeq (sOwn 3 (eLst aNil))
    (sSeq (sSet 4 (eC (.int 0)))
    (sSeq (sIf (tV (eBin geM (eVar 0) (eBin powM (eC (.int 10)) (eC (.int 18)))))
      (sSet 4 (eVar 0))
      sEnd)
    (sSeq (sFor (iRange (aCons (eVar 1) aNil)) (gN1 5)
      (sIf (tV (eBin gtM (eVar 4) (eC (.int 0))))
        (sSeq (sX (xM1 3 appM (xPureR (eBin modM (eVar 4) (eC (.int 64))))))
        (sSet 4 (eBin divM (eVar 4) (eC (.int 64)))))
        (sX (xM1 3 appM (xPureR (eCall LL.f_l_mixed (aCons (eVar 0) (aCons (eVar 5) (aCons (eVar 2) aNil)))))))))
    (sRet (eVar 3))))))
noncomputable def f_l_same : Nat → FnF
  | 0 => fun _ => .no
  | n + 1 => runF 2 2
    (sSeq (sIf (tV (eIsi "tuple" (eVar 1)))
      (sSeq (sIf (tOr (tNot (tV (eIsi "tuple" (eVar 0)))) (tV (eBin neM (eCB lenM (aCons (eVar 0) aNil)) (eCB lenM (aCons (eVar 1) aNil)))))
        (sRet (eC (.bl false)))
        sEnd)
      (sRet (eCB allM (aCons (eComp 1 [0, 1] (iRange (aCons (eCB lenM (aCons (eVar 1) aNil)) aNil)) (g1 0) tTrue (eCall (f_l_same n) (aCons (eBin ixM (eVar 1) (eVar 0)) (aCons (eBin ixM (eVar 2) (eVar 0)) aNil)))) aNil))))
      sEnd)
    (sSeq (sIf (tV (eBin isM (eVar 1) (eC .non)))
      (sRet (eBin isM (eVar 0) (eC .non)))
      sEnd)
    (sSeq (sIf (tV (eIsi "bool" (eVar 1)))
      (sRet (eAnd (eIsi "bool" (eVar 0)) (eBin eqM (eVar 0) (eVar 1))))
      sEnd)
    (sSeq (sIf (tV (eIsi "int" (eVar 1)))
      (sRet (eAnd (eIsi "int" (eVar 0)) (eAnd (eNot (eIsi "bool" (eVar 0))) (eBin eqM (eVar 0) (eVar 1)))))
      sEnd)
    (sRet (eAnd (eIsi "str" (eVar 0)) (eBin eqM (eVar 0) (eVar 1))))))))
noncomputable def f_l_order : FnF := runF 11 3
    (sSeq (sOwn 3 (eListR (aCons (eVar 1) aNil)))
    (sSeq (sOwn 4 (eLst aNil))
    (sSeq (sFor (iRange (aCons (eVar 1) aNil)) (gN1 5)
      (sX (xM1 4 appM (xM1 3 popM (xPure (eBin modM (eBin ixM (eVar 0) (eVar 5)) (eCB lenM (aCons (eVar 3) aNil))))))))
    (sSeq (sOwnD 6)
    (sSeq (sSet 7 (eVar 1))
    (sSeq (sFor (iRange (aCons (eVar 1) aNil)) (gN1 8)
      (sSeq (sSet 9 (eLst aNil))
      (sSeq (sFor (iRange (aCons (eVar 8) aNil)) (gN1 10)
        (sSeq (sIf (tV (eBin ltM (eBin modM (eBin ixM (eVar 0) (eVar 7)) (eC (.int 4))) (eVar 2)))
          (sSetF 9 (eBin catM (eVar 9) (eComp 1 [9] (iWalk (eBin addM (eBin ixDM (eVar 6) (eBin ixM (eVar 4) (eVar 10))) (eLst (aCons (eBin ixM (eVar 4) (eVar 10)) aNil)))) (g1 0) (tV (eBin (inM true) (eVar 0) (eVar 1))) (eVar 0))))
          sEnd)
        (sSet 7 (eBin addM (eVar 7) (eC (.int 1))))))
      (sPutN 6 (xPureR (eVar 9)) (eBin ixM (eVar 4) (eVar 8))))))
    (sRet (eCB tupleM (aCons (eComp 1 [6] (iRange (aCons (eVar 1) aNil)) (g1 0) tTrue (eCB tupleM (aCons (eCB sortedM (aCons (eBin ixDM (eVar 1) (eVar 0)) aNil)) aNil))) aNil)))))))))
noncomputable def f_l_drawn : FnF := runF 7 4
    (sSeq (sSet 4 (eCall LL.f_l_draws (aCons (eCall LL.f_l_cell (aCons (eVar 0) (aCons (eVar 1) aNil))) (aCons (eC (.int 4)) (aCons (eVar 3) aNil)))))
    (sSeq (sSet 5 (eBin modM (eBin ixM (eVar 4) (eC (.int 0))) (eBin addM (eVar 2) (eC (.int 1)))))
    (sSeq (sSet 6 (eCall LL.f_l_draws (aCons (eCall LL.f_l_cell (aCons (eVar 0) (aCons (eBin addM (eVar 1) (eC (.int 1))) aNil))) (aCons (eBin addM (eVar 5) (eBin divM (eBin mulM (eVar 5) (eBin subM (eVar 5) (eC (.int 1)))) (eC (.int 2)))) (aCons (eBin addM (eVar 3) (eC (.int 10007))) aNil)))))
    (sRet (eCall LL.f_l_order (aCons (eVar 6) (aCons (eVar 5) (aCons (eBin ixM (eLst (aCons (eC (.int 1)) (aCons (eC (.int 1)) (aCons (eC (.int 2)) (aCons (eC (.int 2)) (aCons (eC (.int 3)) (aCons (eC (.int 1)) (aCons (eC (.int 0)) (aCons (eC (.int 4)) aNil))))))))) (eBin modM (eBin ixM (eVar 4) (eC (.int 1))) (eC (.int 8)))) aNil))))))))
end LL
end
section
set_option Elab.async false
set_option linter.all false
set_option maxRecDepth 100000
set_option maxHeartbeats 999999
namespace LL
open PySem L3 L4
noncomputable def tupI (xs : List Int) : D := .tup (xs.map D.int)
noncomputable def lstI (xs : List Int) : D := .lst (xs.map D.int)
noncomputable def ordD (rows : List (List Int)) : D := .tup (rows.map tupI)
theorem addM_int {i j : Int} : addM (.int i) (.int j) = some (.int (i + j)) := rfl
theorem subM_int {i j : Int} : subM (.int i) (.int j) = some (.int (i - j)) := rfl
theorem modM_int {i j : Int} (h : 0 < j) : modM (.int i) (.int j) = some (.int (i % j)) := by simp [modM, intMC, h]
theorem divM_int {i j : Int} (h : 0 < j) (h2 : j < 1073741824) : divM (.int i) (.int j) = some (.int (i / j)) := by simp [divM, intMC, h, show j.natAbs < 1073741824 by omega]
theorem ltM_int {i j : Int} : ltM (.int i) (.int j) = some (.bl (decide (i < j))) := rfl
theorem leM_int {i j : Int} : leM (.int i) (.int j) = some (.bl (decide (i ≤ j))) := rfl
theorem gtM_int {i j : Int} : gtM (.int i) (.int j) = some (.bl (decide (j < i))) := rfl
theorem geM_int {i j : Int} : geM (.int i) (.int j) = some (.bl (decide (j ≤ i))) := rfl
theorem eqM_int {i j : Int} : eqM (.int i) (.int j) = some (.bl (decide (i = j))) := rfl
theorem neM_int {i j : Int} : neM (.int i) (.int j) = some (.bl (!decide (i = j))) := rfl
theorem eqM_bl {i j : Bool} : eqM (.bl i) (.bl j) = some (.bl (decide (i = j))) := rfl
theorem eqM_str {i j : Str} : eqM (.str i) (.str j) = some (.bl (decide (i = j))) := rfl
theorem isM_non {d : D} : isM d .non = some (.bl (isNon d)) := rfl
theorem ixM_lst {a : List D} {i : Int} : ixM (.lst a) (.int i) = atP a i := rfl
theorem ixM_tup {a : List D} {i : Int} : ixM (.tup a) (.int i) = atP a i := rfl
theorem ixM_scr {a : List Int} {i : Int} : ixM (.scr a) (.int i) = (atP a i).map D.int := rfl
theorem lenM_lst {a : List D} : lenM [.lst a] = some (.int a.length) := rfl
theorem lenM_tup {a : List D} : lenM [.tup a] = some (.int a.length) := rfl
theorem lenM_scr {a : List Int} : lenM [.scr a] = some (.int a.length) := rfl
theorem tupleM_lst {a : List D} : tupleM [.lst a] = some (.tup a) := rfl
theorem tupleM_tup {a : List D} : tupleM [.tup a] = some (.tup a) := rfl
theorem listM_lst {a : List D} : listM [.lst a] = some (.lst a) := rfl
theorem listM_tup {a : List D} : listM [.tup a] = some (.lst a) := rfl
theorem walkM_lst {a : List D} : walkM (.lst a) = some a := rfl
theorem walkM_tup {a : List D} : walkM (.tup a) = some a := rfl
theorem truthM_bl {b : Bool} : truthM (.bl b) = some b := rfl
theorem truthM_lst {b : List D} : truthM (.lst b) = some (!b.isEmpty) := rfl
theorem truthM_tup {b : List D} : truthM (.tup b) = some (!b.isEmpty) := rfl
theorem boolM_bl {b : Bool} : boolM (.bl b) = some b := rfl
theorem appM_ok {ds : List D} {d : D} (h : ds.length < 16777216) : appM ds d = some (ds ++ [d], .non) := if_pos h
theorem extM_ok {ds es : List D} (h : ds.length + es.length ≤ 16777216) : extM ds (.lst es) = some (ds ++ es, .non) := if_pos h
theorem enumM_tup {ds : List D} : enumM [.tup ds] = some (ds.zipIdx.map fun p => .tup [.int (p.2 : Int), p.1]) := rfl
theorem enumM_lst {ds : List D} : enumM [.lst ds] = some (ds.zipIdx.map fun p => .tup [.int (p.2 : Int), p.1]) := rfl
theorem revM_tup {ds : List D} : revM [.tup ds] = some ds.reverse := rfl
theorem revM_lst {ds : List D} : revM [.lst ds] = some ds.reverse := rfl
theorem runE {n np : Nat} {b : SF} {ds : List D} {d : D} (hl : ds.length = np) (h : b (startS n ds) = .rt d) : runF n np b ds = .ok d := by
  unfold runF; rw [if_pos hl, h]
theorem seqE {f g : SF} {ρ : SEnv} {o : Out} (ρ' : SEnv) (h1 : f ρ = .nx ρ') (h2 : g ρ' = o) : sSeq f g ρ = o := by
  unfold sSeq; rw [h1]; exact h2
theorem seqR {f g : SF} {ρ : SEnv} {d : D} (h1 : f ρ = .rt d) : sSeq f g ρ = .rt d := by
  unfold sSeq; rw [h1]
theorem retE {f : EF} {ρ : SEnv} {d : D} (h : f (vAll ρ) = some d) : sRet f ρ = .rt d := by
  unfold sRet; rw [h]
theorem setE {i : Nat} {f : EF} {ρ : SEnv} (d : D) {ρ' : SEnv} (h : f (vRd ρ) = some d) (hr : ρ.set i (.ro d) = ρ') : sSet i f ρ = .nx ρ' := by
  unfold sSet; rw [h, ← hr]
theorem ifT {t : TF} {a b : SF} {ρ : SEnv} {o : Out} (h : t (vAll ρ) = some true) (h2 : a ρ = o) : sIf t a b ρ = o := by
  unfold sIf; rw [h]; exact h2
theorem ifF {t : TF} {a b : SF} {ρ : SEnv} {o : Out} (h : t (vAll ρ) = some false) (h2 : b ρ = o) : sIf t a b ρ = o := by
  unfold sIf; rw [h]; exact h2
theorem forE {it : AF} {g : GSF} {b : SF} {ρ : SEnv} {o : Out} (ds : List D) (h : it (vRd ρ) = some ds) (h2 : loopF g b ds ρ = o) : sFor it g b ρ = o := by
  unfold sFor; rw [h]; exact h2
theorem compE {nl : Nat} {fr : List Nat} {it : AF} {g : GEF} {t : TF} {e : EF} {ρ : DEnv} (ds : List D) {ys : List D} (h : it ρ = some ds) (hl : ds.length ≤ 16777216) (h2 : compF g t e (benv nl fr ρ) ds = some ys) : eComp nl fr it g t e ρ = some (.lst ys) := by
  unfold eComp; rw [h]
  show (if ds.length ≤ szL then _ else _) = _
  rw [if_pos (show ds.length ≤ szL from hl), h2]; rfl
theorem addM_lst {a b : List D} (h : a.length + b.length ≤ 16777216) : addM (.lst a) (.lst b) = some (.lst (a ++ b)) := if_pos h
theorem addM_tup {a b : List D} (h : a.length + b.length ≤ 16777216) : addM (.tup a) (.tup b) = some (.tup (a ++ b)) := if_pos h
theorem catM_lst {a b : List D} (h : a.length + b.length ≤ 16777216) : catM (.lst a) (.lst b) = some (.lst (a ++ b)) := if_pos h
theorem mulM_l {i j : Int} (h : i.natAbs < 18446744073709551616) : mulM (.int i) (.int j) = some (.int (i * j)) := by
  simp [mulM, intMC, mulOk, h]
theorem mulM_r {i j : Int} (h : j.natAbs < 18446744073709551616) : mulM (.int i) (.int j) = some (.int (i * j)) := by
  simp [mulM, intMC, mulOk, h]
theorem rangeM_1 {j : Int} (h : j.natAbs < 4611686018427387904) : rangeM [.int j] = some ((rngP 0 j.toNat).map D.int) := if_pos h
theorem rangeM_n {n : Nat} (h : n < 4611686018427387904) : rangeM [.int (n : Int)] = some ((rngP 0 n).map D.int) := by
  rw [rangeM_1 (by omega)]; rfl
theorem intsOf_map : ∀ ns : List Int, intsOf (ns.map D.int) = some ns
  | [] => rfl
  | n :: ns => by simp [intsOf, intsOf_map ns]
theorem inM_tup {neg : Bool} {i : Int} {ns : List Int} : inM neg (.int i) (.tup (ns.map D.int)) = some (.bl (if neg then !ns.contains i else ns.contains i)) := by simp [inM, intsOf_map]
theorem inM_lst {neg : Bool} {i : Int} {ns : List Int} : inM neg (.int i) (.lst (ns.map D.int)) = some (.bl (if neg then !ns.contains i else ns.contains i)) := by simp [inM, intsOf_map]
theorem sorted_ints {ns : List Int} (h : ns.length < 64) : sortedM [.lst (ns.map D.int)] = some (.lst ((sortI ns).map D.int)) := by simp [sortedM, intsOf_map, h]
theorem truths_bl : ∀ bs : List Bool, truths (bs.map D.bl) = some bs
  | [] => rfl
  | b :: bs => by simp [truths, truthM, truths_bl bs]
theorem all_bls {bs : List Bool} : allM [.lst (bs.map D.bl)] = some (.bl (bs.all id)) := by simp [allM, truths_bl]
theorem ixP_ok {n : Nat} {i : Int} (h0 : 0 ≤ i) (h1 : i < n) : ixP n i = some i.toNat := by
  unfold ixP; rw [if_pos h0, if_pos h1]
theorem ixP_nat {n k : Nat} (h : k < n) : ixP n (k : Int) = some k := by
  rw [ixP_ok (by omega) (by omega)]; rfl
theorem atP_nat {α : Type} {xs : List α} {k : Nat} (h : k < xs.length) : atP xs (k : Int) = xs[k]? := by
  unfold atP; rw [ixP_nat h]; rfl
theorem atP_ok {α : Type} {xs : List α} {i : Int} (h0 : 0 ≤ i) (h1 : i < xs.length) : ∃ x ∈ xs, atP xs i = some x ∧ xs[i.toNat]? = some x := by
  have hl : i.toNat < xs.length := by omega
  refine ⟨xs[i.toNat], List.getElem_mem hl, ?_, by simp [hl]⟩
  unfold atP; rw [ixP_ok h0 h1]; simp [hl]
theorem atP_map {α β : Type} (f : α → β) (xs : List α) (i : Int) : atP (xs.map f) i = (atP xs i).map f := by
  unfold atP
  rw [List.length_map]
  cases ixP xs.length i with
  | none => rfl
  | some j => simp
theorem atP_get {α : Type} {xs : List α} {k : Nat} {x : α} (h : xs[k]? = some x) : atP xs (k : Int) = some x := by
  rw [atP_nat (List.getElem?_eq_some_iff.mp h).1, h]
theorem rngP_length (lo : Int) (n : Nat) : (rngP lo n).length = n := by simp [rngP]
theorem rngP_get {lo : Int} {n i : Nat} (h : i < n) : (rngP lo n)[i]? = some (lo + (i : Int)) := by simp [rngP, h]
theorem rngP_succ (lo : Int) (n : Nat) : rngP lo (n + 1) = rngP lo n ++ [lo + (n : Int)] := by simp [rngP, List.range_succ]
theorem rngP_mem {lo : Int} {n : Nat} {x : Int} : x ∈ rngP lo n ↔ lo ≤ x ∧ x < lo + n := by
  unfold rngP
  rw [List.mem_map]
  simp only [List.mem_range]
  constructor
  · rintro ⟨k, hk, rfl⟩; omega
  · rintro ⟨h1, h2⟩; exact ⟨(x - lo).toNat, by omega, by omega⟩
theorem loop_ind {g : GSF} {b : SF} (P : Nat → SEnv → Prop) (ds : List D) {ρ : SEnv} (h0 : P 0 ρ) (step : ∀ (i : Nat) (d : D) (ρ : SEnv), ds[i]? = some d → P i ρ → ∃ ρ1 ρ2, g d ρ = some ρ1 ∧ b ρ1 = .nx ρ2 ∧ P (i + 1) ρ2) :
    ∃ ρ', loopF g b ds ρ = .nx ρ' ∧ P ds.length ρ' := by
  suffices H : ∀ (l : List D) (k : Nat) (ρ : SEnv), ds.drop k = l → k ≤ ds.length → P k ρ → ∃ ρ', loopF g b l ρ = .nx ρ' ∧ P ds.length ρ' from H ds 0 ρ (by simp) (Nat.zero_le _) h0
  intro l
  induction l with
  | nil =>
    intro k ρ hl hk hp
    have : ds.length ≤ k := by simpa using hl
    exact ⟨ρ, rfl, by rwa [show ds.length = k by omega]⟩
  | cons d l ih =>
    intro k ρ hl hk hp
    have hk' : k < ds.length := by
      apply Classical.byContradiction
      intro h
      rw [List.drop_eq_nil_of_le (by omega)] at hl
      cases hl
    have hd : ds[k]? = some d := by
      have := congrArg (fun x => x[0]?) hl
      simpa using this
    obtain ⟨ρ1, ρ2, e1, e2, p2⟩ := step k d ρ hd hp
    have hl2 : ds.drop (k + 1) = l := by
      rw [List.drop_eq_getElem_cons hk'] at hl
      exact (List.cons.inj hl).2
    obtain ⟨ρ', e3, p3⟩ := ih (k + 1) ρ2 hl2 hk' p2
    exact ⟨ρ', by simp only [loopF, e1, e2, e3], p3⟩
theorem loop_rng {g : GSF} {b : SF} (P : Nat → SEnv → Prop) (lo : Int) (n : Nat) {ρ : SEnv} (h0 : P 0 ρ) (step : ∀ (i : Nat) (ρ : SEnv), i < n → P i ρ → ∃ ρ1 ρ2, g (.int (lo + (i : Int))) ρ = some ρ1 ∧ b ρ1 = .nx ρ2 ∧ P (i + 1) ρ2) :
    ∃ ρ', loopF g b ((rngP lo n).map D.int) ρ = .nx ρ' ∧ P n ρ' := by
  have := loop_ind (g := g) (b := b) P ((rngP lo n).map D.int) h0 fun i d ρ hd hp => by
    have hi : i < n := by
      have := (List.getElem?_eq_some_iff.mp hd).1
      simpa [rngP_length] using this
    rw [List.getElem?_map, rngP_get hi] at hd
    cases hd
    exact step i ρ hi hp
  simpa [rngP_length] using this
theorem comp_mapA {α : Type} {g : GEF} {e : EF} {ρ : DEnv} (mk : α → D) (f : α → D) (l : List α) (h : ∀ a ∈ l, (g (mk a) ρ).bind e = some (f a)) : compF g tTrue e ρ (l.map mk) = some (l.map f) := by
  induction l with
  | nil => rfl
  | cons a l ih =>
    have h1 := h a (by simp)
    have h2 := ih fun x hx => h x (by simp [hx])
    cases hg : g (mk a) ρ with
    | none => rw [hg] at h1; cases h1
    | some ρ1 =>
      rw [hg] at h1
      have h1' : e ρ1 = some (f a) := h1
      simp only [List.map_cons, compF, hg, Option.bind_some, tTrue, if_true, h1', h2, Option.map_some]
theorem comp_mapE {α : Type} {g : GEF} {e : EF} {ρ : DEnv} (mk : α → D) (f : α → D) (l : List α) (h : ∀ a ∈ l, ∃ ρ1, g (mk a) ρ = some ρ1 ∧ e ρ1 = some (f a)) : compF g tTrue e ρ (l.map mk) = some (l.map f) :=
  comp_mapA mk f l fun a ha => by
    obtain ⟨ρ1, h1, h2⟩ := h a ha
    rw [h1]; exact h2
theorem comp_filter {α : Type} {g : GEF} {t : TF} {e : EF} {ρ : DEnv} (mk : α → D) (p : α → Bool) (f : α → D) (l : List α) (h : ∀ a ∈ l, ∃ ρ1, g (mk a) ρ = some ρ1 ∧ t ρ1 = some (p a) ∧ (p a = true → e ρ1 = some (f a))) :
    compF g t e ρ (l.map mk) = some ((l.filter p).map f) := by
  induction l with
  | nil => rfl
  | cons a l ih =>
    obtain ⟨ρ1, h1, h2, h3⟩ := h a (by simp)
    have ih := ih fun x hx => h x (by simp [hx])
    cases hp : p a with
    | false => simp [compF, h1, h2, hp, ih]
    | true => simp [compF, h1, h2, hp, h3 hp, ih]
theorem comp_rel {α β : Type} {g : GEF} {e : EF} {ρ : DEnv} (mk : α → D) (out : β → D) (R : α → β → Prop) (l : List α) (h : ∀ a ∈ l, ∃ ρ1 b, g (mk a) ρ = some ρ1 ∧ e ρ1 = some (out b) ∧ R a b) :
    ∃ bs : List β, bs.length = l.length ∧ (∀ (i : Nat) (a : α) (b : β), l[i]? = some a → bs[i]? = some b → R a b) ∧ compF g tTrue e ρ (l.map mk) = some (bs.map out) := by
  induction l with
  | nil => exact ⟨[], rfl, fun i a b h => by simp at h, rfl⟩
  | cons a l ih =>
    obtain ⟨ρ1, b, h1, h2, h3⟩ := h a (by simp)
    obtain ⟨bs, hl, hr, hc⟩ := ih fun x hx => h x (by simp [hx])
    refine ⟨b :: bs, by simp [hl], fun i x y hx hy => ?_, by simp [compF, h1, h2, hc, tTrue]⟩
    cases i with
    | zero => simp at hx hy; subst hx hy; exact h3
    | succ i => exact hr i x y (by simpa using hx) (by simpa using hy)
noncomputable def Rt (o : Out) (Q : D → Prop) : Prop := ∃ d, o = .rt d ∧ Q d
noncomputable def Nx (o : Out) (Q : SEnv → Prop) : Prop := ∃ ρ, o = .nx ρ ∧ Q ρ
theorem rt_seq {f g : SF} {ρ : SEnv} {Q : D → Prop} (M : SEnv → Prop) (h1 : Nx (f ρ) M) (h2 : ∀ ρ', M ρ' → Rt (g ρ') Q) : Rt (sSeq f g ρ) Q := by
  obtain ⟨ρ', e, m⟩ := h1; unfold sSeq; rw [e]; exact h2 ρ' m
theorem nx_seq {f g : SF} {ρ : SEnv} {Q : SEnv → Prop} (M : SEnv → Prop) (h1 : Nx (f ρ) M) (h2 : ∀ ρ', M ρ' → Nx (g ρ') Q) : Nx (sSeq f g ρ) Q := by
  obtain ⟨ρ', e, m⟩ := h1; unfold sSeq; rw [e]; exact h2 ρ' m
theorem rt_seqE {f g : SF} {ρ : SEnv} {Q : D → Prop} (ρ' : SEnv) (h1 : f ρ = .nx ρ') (h2 : Rt (g ρ') Q) : Rt (sSeq f g ρ) Q := by
  unfold sSeq; rw [h1]; exact h2
theorem nx_seqE {f g : SF} {ρ : SEnv} {Q : SEnv → Prop} (ρ' : SEnv) (h1 : f ρ = .nx ρ') (h2 : Nx (g ρ') Q) : Nx (sSeq f g ρ) Q := by
  unfold sSeq; rw [h1]; exact h2
theorem nx_if {t : TF} {a b : SF} {ρ : SEnv} {Q : SEnv → Prop} (c : Bool) (h : t (vAll ρ) = some c) (h1 : c = true → Nx (a ρ) Q) (h2 : c = false → Nx (b ρ) Q) : Nx (sIf t a b ρ) Q := by
  unfold sIf; rw [h]; cases c; exact h2 rfl; exact h1 rfl
theorem rt_ret {f : EF} {ρ : SEnv} {Q : D → Prop} (d : D) (h : f (vAll ρ) = some d) (q : Q d) : Rt (sRet f ρ) Q := ⟨d, retE h, q⟩
theorem nx_set {i : Nat} {f : EF} {ρ : SEnv} {Q : SEnv → Prop} (d : D) (h : f (vRd ρ) = some d) (q : Q (ρ.set i (.ro d))) : Nx (sSet i f ρ) Q := ⟨_, setE d h rfl, q⟩
theorem nx_end {ρ : SEnv} {Q : SEnv → Prop} (q : Q ρ) : Nx (sEnd ρ) Q := ⟨ρ, rfl, q⟩
theorem nx_for {it : AF} {g : GSF} {b : SF} {ρ : SEnv} {Q : SEnv → Prop} (ds : List D) (P : Nat → SEnv → Prop) (h : it (vRd ρ) = some ds) (h0 : P 0 ρ) (step : ∀ (i : Nat) (d : D) (ρ : SEnv), ds[i]? = some d → P i ρ → ∃ ρ1, g d ρ = some ρ1 ∧ Nx (b ρ1) (P (i + 1)))
    (fin : ∀ ρ', P ds.length ρ' → Q ρ') : Nx (sFor it g b ρ) Q := by
  obtain ⟨ρ', e, p⟩ := loop_ind (g := g) (b := b) P ds h0 fun i d ρ hd hp => by
    obtain ⟨ρ1, e1, ρ2, e2, p2⟩ := step i d ρ hd hp
    exact ⟨ρ1, ρ2, e1, e2, p2⟩
  exact ⟨ρ', forE ds h e, fin ρ' p⟩
theorem nx_rng {t : AF} {g : GSF} {b : SF} {ρ : SEnv} {Q : SEnv → Prop} (n : Nat) (P : Nat → SEnv → Prop) (h : t (vRd ρ) = some [.int (n : Int)]) (hn : n < 4611686018427387904) (h0 : P 0 ρ) (step : ∀ (i : Nat) (ρ : SEnv), i < n → P i ρ → ∃ ρ1, g (.int (i : Int)) ρ = some ρ1 ∧ Nx (b ρ1) (P (i + 1)))
    (fin : ∀ ρ', P n ρ' → Q ρ') : Nx (sFor (iRange t) g b ρ) Q := by
  refine nx_for ((rngP 0 n).map D.int) P (by unfold iRange; rw [h, Option.bind_some, rangeM_n hn]) h0 (fun i d ρ hd hp => ?_) (fun ρ' p => fin ρ' (by simpa [rngP_length] using p))
  have hi : i < n := by
    have := (List.getElem?_eq_some_iff.mp hd).1
    simpa [rngP_length] using this
  rw [List.getElem?_map, rngP_get hi] at hd
  have hd : D.int (0 + (i : Int)) = d := by simpa using hd
  subst hd
  obtain ⟨ρ1, e, q⟩ := step i ρ hi hp
  exact ⟨ρ1, by rw [Int.zero_add]; exact e, q⟩
theorem run_ok {n np : Nat} {b : SF} {ds : List D} {Q : D → Prop} (hl : ds.length = np) (h : Rt (b (startS n ds)) Q) : ∃ d, runF n np b ds = .ok d ∧ Q d := by
  obtain ⟨d, e, q⟩ := h; exact ⟨d, runE hl e, q⟩
theorem erase_map : ∀ (l : List Int) (j : Nat), (l.map D.int).eraseIdx j = (l.eraseIdx j).map D.int
  | [], j => by simp
  | a :: l, 0 => by simp
  | a :: l, j + 1 => by simp [erase_map l j]
theorem binE {g : D → D → Option D} {a b : EF} {ρ : DEnv} {z : Option D} {x y : D} (ha : a ρ = some x) (hb : b ρ = some y) (h : g x y = z) : eBin g a b ρ = z := by
  unfold eBin; rw [ha, hb]; exact h
theorem cb1E {g : List D → Option D} {a : EF} {ρ : DEnv} {z : Option D} {x : D} (ha : a ρ = some x) (h : g [x] = z) : eCB g (aCons a aNil) ρ = z := by
  unfold eCB aCons aNil; rw [ha]; exact h
theorem call1E {f : FnF} {a : EF} {ρ : DEnv} {d x : D} (ha : a ρ = some x) (h : f [x] = .ok d) : eCall f (aCons a aNil) ρ = some d := by
  unfold eCall aCons aNil; rw [ha]; show mOpt (f [x]) = _; rw [h]; rfl
theorem call2E {f : FnF} {a b : EF} {ρ : DEnv} {d x y : D} (ha : a ρ = some x) (hb : b ρ = some y) (h : f [x, y] = .ok d) : eCall f (aCons a (aCons b aNil)) ρ = some d := by
  unfold eCall aCons aNil; rw [ha, hb]; show mOpt (f [x, y]) = _; rw [h]; rfl
theorem call3E {f : FnF} {a b c : EF} {ρ : DEnv} {d x y z : D} (ha : a ρ = some x) (hb : b ρ = some y) (hc : c ρ = some z) (h : f [x, y, z] = .ok d) : eCall f (aCons a (aCons b (aCons c aNil))) ρ = some d := by
  unfold eCall aCons aNil; rw [ha, hb, hc]; show mOpt (f [x, y, z]) = _; rw [h]; rfl
theorem call4E {f : FnF} {a b c e : EF} {ρ : DEnv} {d x y z w : D} (ha : a ρ = some x) (hb : b ρ = some y) (hc : c ρ = some z) (he : e ρ = some w) (h : f [x, y, z, w] = .ok d) : eCall f (aCons a (aCons b (aCons c (aCons e aNil)))) ρ = some d := by
  unfold eCall aCons aNil; rw [ha, hb, hc, he]; show mOpt (f [x, y, z, w]) = _; rw [h]; rfl
theorem args1 {a : EF} {ρ : DEnv} {x : D} (ha : a ρ = some x) : aCons a aNil ρ = some [x] := by unfold aCons aNil; rw [ha]; rfl
theorem args2 {a b : EF} {ρ : DEnv} {x y : D} (ha : a ρ = some x) (hb : b ρ = some y) : aCons a (aCons b aNil) ρ = some [x, y] := by unfold aCons aNil; rw [ha, hb]; rfl
theorem rng1E {a : EF} {ρ : DEnv} {n : Nat} (ha : a ρ = some (.int (n : Int))) (hn : n < 4611686018427387904) : iRange (aCons a aNil) ρ = some ((rngP 0 n).map D.int) := by
  unfold iRange; rw [args1 ha, Option.bind_some, rangeM_n hn]
theorem tvE {f : EF} {ρ : DEnv} {d : D} {b : Bool} (h : f ρ = some d) (ht : truthM d = some b) : tV f ρ = some b := by unfold tV; rw [h]; exact ht
theorem tnE {t : TF} {ρ : DEnv} {b c : Bool} (h : t ρ = some b) (hc : (!b) = c) : tNot t ρ = some c := by unfold tNot; rw [h, ← hc]; rfl
theorem tandE {t u : TF} {ρ : DEnv} {b c : Bool} (h : t ρ = some b) (h2 : b = true → u ρ = some c) (h3 : b = false → c = false) : tAnd t u ρ = some c := by
  unfold tAnd; rw [h]; cases b
  · rw [h3 rfl]; rfl
  · exact h2 rfl
theorem torE {t u : TF} {ρ : DEnv} {b c : Bool} (h : t ρ = some b) (h2 : b = false → u ρ = some c) (h3 : b = true → c = true) : tOr t u ρ = some c := by
  unfold tOr; rw [h]; cases b
  · exact h2 rfl
  · rw [h3 rfl]; rfl
theorem popM_ok {l : List Int} {i : Int} {y : Int} (h0 : 0 ≤ i) (h1 : i < l.length) (h2 : l.length ≤ 16777216) (hy : l[i.toNat]? = some y) : popM (l.map D.int) (.int i) = some ((l.eraseIdx i.toNat).map D.int, .int y) := by
  show (if i.natAbs < 9223372036854775808 then _ else _) = _
  rw [if_pos (by omega), List.length_map, ixP_ok h0 h1, Option.bind_some, List.getElem?_map, hy, erase_map]
  rfl
theorem ints_at {ws : List Int} {j : Nat} {x : Int} (h : ws[j]? = some x) : atP (ws.map D.int) (j : Int) = some (.int x) := by
  rw [atP_map, atP_get h]; rfl
theorem take_get {α : Type} {l : List α} {i j : Nat} {x : α} (h : l[i]? = some x) (hij : i < j) : (l.take j)[i]? = some x := by rw [List.getElem?_take_of_lt hij]; exact h
theorem imms_ints : ∀ ns : List Int, imms (ns.map D.int) = true
  | [] => rfl
  | n :: ns => by rw [List.map_cons, imms, imms_ints ns]; rfl
theorem lookM_cons {k q : Sum Int Str} {ks : List (Sum Int Str)} {d : D} {ds : List D} : lookM (q :: ks) (d :: ds) k = if q = k then some d else lookM ks ds k := by
  by_cases e : q = k
  · simp [lookM, e]
  · simp [lookM, e]
theorem look_word : ∀ {word : List Int} {us : List (List Int)} {i : Nat} {x : Int} {v : List Int}, word.Nodup → word[i]? = some x → us[i]? = some v → lookM (word.map Sum.inl) (us.map lstI) (Sum.inl x) = some (lstI v)
  | [], us, i, x, v, _, h, _ => by simp at h
  | w :: ws, [], i, x, v, _, _, h => by simp at h
  | w :: ws, u :: us, 0, x, v, _, h1, h2 => by
    simp at h1 h2
    subst h1 h2
    rw [List.map_cons, List.map_cons, lookM_cons, if_pos rfl]
  | w :: ws, u :: us, i + 1, x, v, hn, h1, h2 => by
    obtain ⟨n1, n2⟩ := List.nodup_cons.mp hn
    have h1' : ws[i]? = some x := by simpa using h1
    have ne : (Sum.inl w : Sum Int Str) ≠ Sum.inl x := fun e => n1 (by cases e; exact List.mem_of_getElem? h1')
    rw [List.map_cons, List.map_cons, lookM_cons, if_neg ne]
    exact look_word n2 h1' (by simpa using h2)
theorem look_none : ∀ {word : List Int} {us : List (List Int)} {x : Int}, x ∉ word → lookM (word.map Sum.inl) (us.map lstI) (Sum.inl x) = none
  | [], us, x, _ => by simp [lookM]
  | w :: ws, [], x, _ => by simp [lookM]
  | w :: ws, u :: us, x, h => by
    have ne : (Sum.inl w : Sum Int Str) ≠ Sum.inl x := fun e => h (by cases e; exact List.mem_cons_self)
    rw [List.map_cons, List.map_cons, lookM_cons, if_neg ne]
    exact look_none fun z => h (List.mem_cons_of_mem _ z)
theorem insI_perm (a : Int) : ∀ l : List Int, (insI a l).Perm (a :: l)
  | [] => .refl _
  | b :: l => by
    unfold insI
    split
    · exact .refl _
    · exact ((insI_perm a l).cons b).trans (.swap a b l)
theorem sortI_perm : ∀ l : List Int, (sortI l).Perm l
  | [] => .refl _
  | a :: l => (insI_perm a (sortI l)).trans ((sortI_perm l).cons a)
theorem insI_sorted (a : Int) : ∀ l : List Int, l.Pairwise (· ≤ ·) → (insI a l).Pairwise (· ≤ ·)
  | [], _ => by simp [insI]
  | b :: l, h => by
    unfold insI
    split
    · rename_i hab
      refine List.pairwise_cons.mpr ⟨fun c hc => ?_, h⟩
      rcases List.mem_cons.mp hc with e | e
      · subst e; exact hab
      · exact Int.le_trans hab ((List.pairwise_cons.mp h).1 c e)
    · rename_i hab
      refine List.pairwise_cons.mpr ⟨fun c hc => ?_, insI_sorted a l (List.pairwise_cons.mp h).2⟩
      rcases List.mem_cons.mp ((insI_perm a l).mem_iff.mp hc) with e | e
      · subst e; omega
      · exact (List.pairwise_cons.mp h).1 c e
theorem sortI_sorted : ∀ l : List Int, (sortI l).Pairwise (· ≤ ·)
  | [] => List.Pairwise.nil
  | a :: l => insI_sorted a _ (sortI_sorted l)
end LL
end
section
set_option Elab.async false
set_option linter.all false
set_option maxRecDepth 100000
set_option maxHeartbeats 999999
namespace LL
open PySem L3 L4
local macro_rules | `(tactic| walk_at "ev") => `(tactic| simp only [startS, sSeq, sIf, sRet, sSet, sSetX, sOwn, sOwnI, sSetF, sOwnD, sX, sFor, sEnd, eVar, eC, eBin, tV, tNot, tAnd, tOr, eAnd, eOr, eNot, eIf, eNeg, eChain, aNil, aCons, eCB, eCall, mOpt, eIsi, iWalk, iRange, iEnum, iZip, iRev, g1, g2, gN1, gN2, pairM, tTrue, benv, eSl, oNo, oE, asInt, xPureR, xM1, ownL, vAll, vRd, Sv.all, Sv.rd, List.map_cons, List.map_nil, List.getElem?_cons_zero, List.getElem?_cons_succ, List.getElem?_nil, Option.join_some, Option.join_none, Option.bind_some, Option.bind_none, Option.map_some, Option.map_none, List.set_cons_zero, List.set_cons_succ, List.set_nil, List.length_cons, List.length_nil, List.length_map, List.cons_append, List.nil_append, List.replicate_succ, List.replicate_zero, Nat.reduceSub, Nat.reduceAdd, Nat.reduceEqDiff, truthM_bl, truthM_lst, truthM_tup, boolM_bl, negM, addM_int, subM_int, ltM_int, leM_int, gtM_int, geM_int, eqM_int, neM_int, eqM_bl, eqM_str, isM_non, isNon, ixM_lst, ixM_tup, ixM_scr, lenM_lst, lenM_tup, lenM_scr, tupleM_lst, tupleM_tup, listM_lst, listM_tup, walkM_lst, walkM_tup, enumM_tup, enumM_lst, revM_tup, revM_lst, if_true, if_false, ite_true, ite_false, reduceIte, decide_true, decide_false, decide_eq_true_eq, Bool.false_eq_true, Bool.not_true, Bool.not_false, inM_tup, inM_lst])
theorem cell_ok (ns : List Int) (k : Int) : ∃ c, f_l_cell [.scr ns, .int k] = .ok (.int c) := by
  unfold f_l_cell
  by_cases h : (ns.length : Int) = 0
  · exact ⟨0, runE rfl (seqR (ifT (by walk_at "ev"; rw [decide_eq_true h]) rfl))⟩
  · obtain ⟨x, _, e, _⟩ := atP_ok (xs := ns) (i := k % (ns.length : Int)) (Int.emod_nonneg _ (by omega)) (Int.emod_lt_of_pos _ (by omega))
    refine ⟨x, runE rfl (seqE _ (ifF (by walk_at "ev"; rw [decide_eq_false h]) rfl) (retE ?_))⟩
    walk_at "ev"
    rw [modM_int (by omega)]
    walk_at "ev"
    rw [e]; rfl
noncomputable def mix1 (c k s : Int) : Int := (c + 11 * k * k + 17 * k + s) * 48271 % 2147483647
noncomputable def mix2 (c k s : Int) : Int := (mix1 c k s * (mix1 c k s / 4096 + 5) + 29 * k + s) % 2147483629
theorem mixed_ok (c k s : Int) (h0 : 0 ≤ k) (h1 : k < 1000000) : ∃ r, 0 ≤ r ∧ f_l_mixed [.int c, .int k, .int s] = .ok (.int r) := by
  unfold f_l_mixed
  have ha : 0 ≤ mix1 c k s := Int.emod_nonneg ((c + 11 * k * k + 17 * k + s) * 48271) (b := 2147483647) (by decide)
  have hb : mix1 c k s < 2147483647 := Int.emod_lt_of_pos ((c + 11 * k * k + 17 * k + s) * 48271) (b := 2147483647) (by decide)
  refine ⟨mix2 c k s * 39373 % 1000000007, Int.emod_nonneg _ (b := 1000000007) (by decide), runE rfl (seqE _ (setE (.int (mix1 c k s)) ?_ rfl) (seqE _ (setE (.int (mix2 c k s)) ?_ rfl) (retE ?_)))⟩
  · walk_at "ev"
    rw [mulM_l (by decide)]
    walk_at "ev"
    rw [mulM_r (by omega), mulM_l (i := 17) (by decide)]
    walk_at "ev"
    rw [mulM_r (j := 48271) (by decide)]
    walk_at "ev"
    rw [modM_int (by decide)]
    rfl
  · walk_at "ev"
    rw [divM_int (by decide) (by decide)]
    walk_at "ev"
    rw [mulM_l (by omega), mulM_l (i := 29) (by decide)]
    walk_at "ev"
    rw [modM_int (by decide)]
    rfl
  · walk_at "ev"
    rw [mulM_r (j := 39373) (by decide)]
    walk_at "ev"
    rw [modM_int (by decide)]
theorem lstI_snoc (xs : List Int) (x : Int) : D.lst (xs.map D.int ++ [.int x]) = lstI (xs ++ [x]) := by simp [lstI]
theorem draws_ok (c many s : Int) (h0 : 0 ≤ many) (h1 : many < 1000000) : ∃ xs : List Int, xs.length = many.toNat ∧ (∀ x ∈ xs, 0 ≤ x) ∧ f_l_draws [.int c, .int many, .int s] = .ok (lstI xs) := by
  unfold f_l_draws
  have key : ∀ left : Int, ∃ ρ', loopF (gN1 5) (sIf (tV (eBin gtM (eVar 4) (eC (.int 0))))
        (sSeq (sX (xM1 3 appM (xPureR (eBin modM (eVar 4) (eC (.int 64))))))
        (sSet 4 (eBin divM (eVar 4) (eC (.int 64)))))
        (sX (xM1 3 appM (xPureR (eCall LL.f_l_mixed (aCons (eVar 0) (aCons (eVar 5) (aCons (eVar 2) aNil))))))))
        ((rngP 0 many.toNat).map D.int) [Sv.ro (.int c), Sv.ro (.int many), Sv.ro (.int s), Sv.ow (.lst []), Sv.ro (.int left), Sv.no] = .nx ρ' ∧
        ∃ (xs : List Int) (l : Int) (v : Sv), xs.length = many.toNat ∧ (∀ x ∈ xs, 0 ≤ x) ∧ ρ' = [Sv.ro (.int c), Sv.ro (.int many), Sv.ro (.int s), Sv.ow (lstI xs), Sv.ro (.int l), v] := by
    intro left
    refine loop_rng (fun i ρ' => ∃ (xs : List Int) (l : Int) (v : Sv), xs.length = i ∧ (∀ x ∈ xs, 0 ≤ x) ∧ ρ' = [Sv.ro (.int c), Sv.ro (.int many), Sv.ro (.int s), Sv.ow (lstI xs), Sv.ro (.int l), v]) 0 _ ⟨[], left, _, rfl, by simp, rfl⟩ ?_
    rintro i _ hi ⟨xs, l, v, hx, hn, rfl⟩
    have hlen : (xs.map D.int).length < 16777216 := by rw [List.length_map]; omega
    by_cases hl : 0 < l
    · refine ⟨_, _, rfl, ifT (by walk_at "ev"; rw [decide_eq_true hl]) (seqE [Sv.ro (.int c), Sv.ro (.int many), Sv.ro (.int s), Sv.ow (lstI (xs ++ [l % 64])), Sv.ro (.int l), Sv.ro (.int (0 + (i : Int)))] ?_ (setE (.int (l / 64)) ?_ rfl)), xs ++ [l % 64], l / 64, _, by simp [hx], ?_, rfl⟩
      · walk_at "ev"
        rw [modM_int (by decide)]
        walk_at "ev"
        simp only [lstI, ownL]
        walk_at "ev"
        rw [appM_ok hlen]
        walk_at "ev"
        rw [lstI_snoc]
        rfl
      · walk_at "ev"
        rw [divM_int (by decide) (by decide)]
      · intro x hx
        rcases List.mem_append.mp hx with h | h
        · exact hn x h
        · rw [List.mem_singleton.mp h]; exact Int.emod_nonneg _ (by decide)
    · obtain ⟨r, hr, e⟩ := mixed_ok c (0 + (i : Int)) s (by omega) (by omega)
      refine ⟨_, [Sv.ro (.int c), Sv.ro (.int many), Sv.ro (.int s), Sv.ow (lstI (xs ++ [r])), Sv.ro (.int l), Sv.ro (.int (0 + (i : Int)))], rfl, ifF (by walk_at "ev"; rw [decide_eq_false hl]) ?_, xs ++ [r], l, _, by simp [hx], ?_, rfl⟩
      · walk_at "ev"
        rw [e]
        simp only [lstI, ownL]
        walk_at "ev"
        rw [appM_ok hlen]
        walk_at "ev"
        rw [lstI_snoc]
        rfl
      · intro x hx
        rcases List.mem_append.mp hx with h | h
        · exact hn x h
        · rw [List.mem_singleton.mp h]; exact hr
  have hp : powM (.int 10) (.int 18) = some (.int 1000000000000000000) := rfl
  have fin : ∀ left : Int, (0 = 0) → ∃ xs : List Int, xs.length = many.toNat ∧ (∀ x ∈ xs, 0 ≤ x) ∧ sSeq (sFor (iRange (aCons (eVar 1) aNil)) (gN1 5) (sIf (tV (eBin gtM (eVar 4) (eC (.int 0))))
        (sSeq (sX (xM1 3 appM (xPureR (eBin modM (eVar 4) (eC (.int 64))))))
        (sSet 4 (eBin divM (eVar 4) (eC (.int 64)))))
        (sX (xM1 3 appM (xPureR (eCall LL.f_l_mixed (aCons (eVar 0) (aCons (eVar 5) (aCons (eVar 2) aNil))))))))) (sRet (eVar 3)) [Sv.ro (.int c), Sv.ro (.int many), Sv.ro (.int s), Sv.ow (.lst []), Sv.ro (.int left), Sv.no] = .rt (lstI xs) := by
    intro left _
    obtain ⟨ρ', e, xs, l, v, h1', h2', rfl⟩ := key left
    refine ⟨xs, h1', h2', seqE _ (forE _ ?_ e) (retE rfl)⟩
    walk_at "ev"
    exact rangeM_1 (by omega)
  by_cases hc : 1000000000000000000 ≤ c
  · obtain ⟨xs, a, b, e⟩ := fin c rfl
    refine ⟨xs, a, b, runE rfl (seqE _ rfl (seqE _ rfl (seqE _ (ifT ?_ rfl) e)))⟩
    walk_at "ev"
    rw [hp]
    walk_at "ev"
    rw [decide_eq_true hc]
  · obtain ⟨xs, a, b, e⟩ := fin 0 rfl
    refine ⟨xs, a, b, runE rfl (seqE _ rfl (seqE _ rfl (seqE _ (ifF ?_ rfl) e)))⟩
    walk_at "ev"
    rw [hp]
    walk_at "ev"
    rw [decide_eq_false hc]
theorem order_ok (dr : List Int) (n : Nat) (th : Int) (hn : n ≤ 9) (hl : n + Ord.tri n ≤ dr.length) :
    ∃ d, f_l_order [lstI dr, .int n, .int th] = .ok d ∧ ∃ rows : List (List Int), rows.length = n ∧ Ord.Rows rows ∧ d = ordD rows := by
  unfold f_l_order
  refine run_ok rfl ?_
  rw [show startS 11 [lstI dr, .int n, .int th] = [Sv.ro (lstI dr), Sv.ro (.int n), Sv.ro (.int th), Sv.no, Sv.no, Sv.no, Sv.no, Sv.no, Sv.no, Sv.no, Sv.no] from rfl]
  refine rt_seqE [Sv.ro (lstI dr), Sv.ro (.int n), Sv.ro (.int th), Sv.ow (.lst ((rngP 0 n).map D.int)), Sv.no, Sv.no, Sv.no, Sv.no, Sv.no, Sv.no, Sv.no] ?_ ?_
  · walk_at "ev"
    simp only [eListR]
    walk_at "ev"
    rw [if_pos (by omega)]
    rfl
  refine rt_seqE [Sv.ro (lstI dr), Sv.ro (.int n), Sv.ro (.int th), Sv.ow (.lst ((rngP 0 n).map D.int)), Sv.ow (.lst []), Sv.no, Sv.no, Sv.no, Sv.no, Sv.no, Sv.no] rfl ?_
  refine rt_seq (fun ρ => ∃ (word : List Int) (kv v3 : Sv), word.Perm (rngP 0 n) ∧ ρ = [Sv.ro (lstI dr), Sv.ro (.int n), Sv.ro (.int th), v3, Sv.ow (lstI word), kv, Sv.no, Sv.no, Sv.no, Sv.no, Sv.no]) ?_ ?_
  · refine nx_rng n (fun i ρ => ∃ (rest word : List Int) (kv : Sv), word.length = i ∧ (word ++ rest).Perm (rngP 0 n) ∧ ρ = [Sv.ro (lstI dr), Sv.ro (.int n), Sv.ro (.int th), Sv.ow (lstI rest), Sv.ow (lstI word), kv, Sv.no, Sv.no, Sv.no, Sv.no, Sv.no])
      rfl (by omega) ⟨rngP 0 n, [], Sv.no, rfl, .refl _, rfl⟩ ?_ ?_
    · rintro i _ hi ⟨rest, word, kv, hw, hp, rfl⟩
      have hlr : word.length + rest.length = n := by
        have := hp.length_eq
        rw [List.length_append, rngP_length] at this
        exact this
      obtain ⟨x, hx⟩ : ∃ x, dr[i]? = some x := ⟨_, List.getElem?_eq_getElem (by omega)⟩
      have hr0 : (0 : Int) < rest.length := by omega
      have h0 := Int.emod_nonneg x (show (rest.length : Int) ≠ 0 by omega)
      have h1 := Int.emod_lt_of_pos x hr0
      obtain ⟨y, hy⟩ : ∃ y, rest[(x % (rest.length : Int)).toNat]? = some y := ⟨_, List.getElem?_eq_getElem (by omega)⟩
      refine ⟨_, rfl, [Sv.ro (lstI dr), Sv.ro (.int n), Sv.ro (.int th), Sv.ow (lstI (rest.eraseIdx (x % (rest.length : Int)).toNat)), Sv.ow (lstI (word ++ [y])), Sv.ro (.int i), Sv.no, Sv.no, Sv.no, Sv.no, Sv.no], ?_, rest.eraseIdx (x % (rest.length : Int)).toNat, word ++ [y], Sv.ro (.int i), by simp [hw], ?_, rfl⟩
      · have e1 := popM_ok h0 h1 (by omega) hy
        simp only [lstI]
        walk_at "ev"
        simp only [xPure]
        walk_at "ev"
        rw [ints_at hx]
        walk_at "ev"
        rw [modM_int hr0]
        walk_at "ev"
        simp only [D.imm, ite_true, Option.bind_some]
        walk_at "ev"
        rw [e1]
        walk_at "ev"
        rw [appM_ok (by rw [List.length_map]; omega)]
        walk_at "ev"
        rw [List.map_append]
        rfl
      · rw [List.append_assoc]
        exact ((Ord.cons_erase rest _ y hy).append_left word).trans hp
    · rintro _ ⟨rest, word, kv, hw, hp, rfl⟩
      have hlr : word.length + rest.length = n := by
        have := hp.length_eq
        rw [List.length_append, rngP_length] at this
        exact this
      have e : rest = [] := List.length_eq_zero_iff.mp (by omega)
      subst e
      rw [List.append_nil] at hp
      exact ⟨word, kv, _, hp, rfl⟩
  rintro _ ⟨word, kv, v3, hp, rfl⟩
  have hpw : word.Perm ((List.range n).map fun k : Nat => (k : Int)) := by
    have e : rngP 0 n = (List.range n).map fun k : Nat => (k : Int) := List.map_congr_left fun k _ => by show 0 + (k : Int) = k; omega
    rw [← e]
    exact hp
  have hlw : word.length = n := by rw [hpw.length_eq, List.length_map, List.length_range]
  have ndw : word.Nodup := hpw.nodup_iff.mpr (List.Pairwise.map _ (fun a b hab e => hab (by omega)) List.nodup_range)
  have lenU : ∀ {us : List (List Int)} (t : Nat) (u : List Int), Ord.Under word us t u → u.length ≤ n := fun {us} t u h => by
    rw [← hlw]
    exact Ord.length_sub u word h.1 fun a ha => by obtain ⟨s, _, _, h2, _⟩ := h.2 a ha; exact List.mem_of_getElem? h2
  refine rt_seqE [Sv.ro (lstI dr), Sv.ro (.int n), Sv.ro (.int th), v3, Sv.ow (lstI word), kv, Sv.ow (.dic [] []), Sv.no, Sv.no, Sv.no, Sv.no] rfl ?_
  refine rt_seqE [Sv.ro (lstI dr), Sv.ro (.int n), Sv.ro (.int th), v3, Sv.ow (lstI word), kv, Sv.ow (.dic [] []), Sv.ro (.int n), Sv.no, Sv.no, Sv.no] rfl ?_
  refine rt_seq (fun ρ => ∃ (us : List (List Int)) (v7 v8 v9 v10 : Sv), us.length = n ∧ Ord.Good word us ∧ ρ = [Sv.ro (lstI dr), Sv.ro (.int n), Sv.ro (.int th), v3, Sv.ow (lstI word), kv, Sv.ow (.dic (word.map Sum.inl) (us.map lstI)), v7, v8, v9, v10]) ?_ ?_
  · refine nx_rng n (fun j ρ => ∃ (us : List (List Int)) (v8 v9 v10 : Sv), us.length = j ∧ Ord.Good word us ∧ ρ = [Sv.ro (lstI dr), Sv.ro (.int n), Sv.ro (.int th), v3, Sv.ow (lstI word), kv, Sv.ow (.dic ((word.take j).map Sum.inl) (us.map lstI)), Sv.ro (.int ((n + Ord.tri j : Nat) : Int)), v8, v9, v10])
      rfl (by omega) ⟨[], Sv.no, Sv.no, Sv.no, rfl, (fun t u e => by simp at e), rfl⟩ ?_ ?_
    · rintro j _ hj ⟨us, v8, v9, v10, hul, hg, rfl⟩
      refine ⟨_, rfl, ?_⟩
      refine nx_seqE [Sv.ro (lstI dr), Sv.ro (.int n), Sv.ro (.int th), v3, Sv.ow (lstI word), kv, Sv.ow (.dic ((word.take j).map Sum.inl) (us.map lstI)), Sv.ro (.int ((n + Ord.tri j : Nat) : Int)), Sv.ro (.int j), Sv.ro (.lst []), v10] rfl ?_
      refine nx_seq (fun ρ => ∃ (u : List Int) (v10 : Sv), Ord.Under word us j u ∧ ρ = [Sv.ro (lstI dr), Sv.ro (.int n), Sv.ro (.int th), v3, Sv.ow (lstI word), kv, Sv.ow (.dic ((word.take j).map Sum.inl) (us.map lstI)), Sv.ro (.int ((n + Ord.tri (j + 1) : Nat) : Int)), Sv.ro (.int j), Sv.ro (lstI u), v10]) ?_ ?_
      · refine nx_rng j (fun i ρ => ∃ (u : List Int) (v10 : Sv), Ord.Under word us i u ∧ ρ = [Sv.ro (lstI dr), Sv.ro (.int n), Sv.ro (.int th), v3, Sv.ow (lstI word), kv, Sv.ow (.dic ((word.take j).map Sum.inl) (us.map lstI)), Sv.ro (.int ((n + Ord.tri j + i : Nat) : Int)), Sv.ro (.int j), Sv.ro (lstI u), v10])
          rfl (by omega) ⟨[], _, ⟨List.nodup_nil, fun a ha => (nomatch ha)⟩, rfl⟩ ?_ ?_
        · rintro i _ hi ⟨u, v10, hU, rfl⟩
          have tl := Ord.tri_lt hj hi
          obtain ⟨y, hy⟩ : ∃ y, dr[n + Ord.tri j + i]? = some y := ⟨_, List.getElem?_eq_getElem (by omega)⟩
          obtain ⟨x, hx⟩ : ∃ x, word[i]? = some x := ⟨_, List.getElem?_eq_getElem (by omega)⟩
          obtain ⟨v, hv⟩ : ∃ v, us[i]? = some v := ⟨_, List.getElem?_eq_getElem (by omega)⟩
          have lv := lenU _ _ (hg i v hv)
          have lu := lenU _ _ hU
          refine ⟨_, rfl, ?_⟩
          refine nx_seq (fun ρ => ∃ u' : List Int, Ord.Under word us (i + 1) u' ∧ ρ = [Sv.ro (lstI dr), Sv.ro (.int n), Sv.ro (.int th), v3, Sv.ow (lstI word), kv, Sv.ow (.dic ((word.take j).map Sum.inl) (us.map lstI)), Sv.ro (.int ((n + Ord.tri j + i : Nat) : Int)), Sv.ro (.int j), Sv.ro (lstI u'), Sv.ro (.int i)]) ?_ ?_
          · refine nx_if (decide (y % 4 < th)) ?_ (fun _ => ?_) (fun _ => nx_end ⟨u, hU.mono (by omega), rfl⟩)
            · simp only [lstI]
              walk_at "ev"
              rw [ints_at hy]
              walk_at "ev"
              rw [modM_int (by decide)]
              walk_at "ev"
            · refine ⟨_, ?_, _, hU.step ndw hg hx hv, rfl⟩
              have hf := List.length_filter_le (fun a => !u.contains a) (v ++ [x])
              have e1 : compF (g1 0) (tV (eBin (inM true) (eVar 0) (eVar 1))) (eVar 0) [none, some (.lst (u.map D.int))] ((v ++ [x]).map D.int) = some (((v ++ [x]).filter fun a => !u.contains a).map D.int) :=
                comp_filter D.int _ D.int (v ++ [x]) fun a _ => ⟨_, rfl, by walk_at "ev", fun _ => rfl⟩
              have e2 : eBin addM (eBin ixDM (eVar 6) (eBin ixM (eVar 4) (eVar 10))) (eLst (aCons (eBin ixM (eVar 4) (eVar 10)) aNil)) [some (lstI dr), some (.int n), some (.int th), v3.all, some (lstI word), kv.all, some (.dic ((word.take j).map Sum.inl) (us.map lstI)), some (.int ((n + Ord.tri j + i : Nat) : Int)), some (.int j), some (lstI u), some (.int i)] = some (.lst ((v ++ [x]).map D.int)) := by
                simp only [lstI]
                walk_at "ev"
                rw [ints_at hx]
                walk_at "ev"
                simp only [ixDM, keyM, Option.bind_some]
                have := look_word (List.Nodup.sublist (List.take_sublist j word) ndw) (take_get hx hi) hv
                simp only [lstI] at this
                rw [this]
                simp only [eLst]
                walk_at "ev"
                rw [ints_at hx]
                walk_at "ev"
                rw [if_pos (by decide), Option.bind_some, addM_lst (by simp; omega)]
                simp
              have e3 : eComp 1 [9] (iWalk (eBin addM (eBin ixDM (eVar 6) (eBin ixM (eVar 4) (eVar 10))) (eLst (aCons (eBin ixM (eVar 4) (eVar 10)) aNil)))) (g1 0) (tV (eBin (inM true) (eVar 0) (eVar 1))) (eVar 0) [some (lstI dr), some (.int n), some (.int th), v3.all, some (lstI word), kv.all, some (.dic ((word.take j).map Sum.inl) (us.map lstI)), some (.int ((n + Ord.tri j + i : Nat) : Int)), some (.int j), some (lstI u), some (.int i)] = some (.lst (((v ++ [x]).filter fun a => !u.contains a).map D.int)) :=
                compE ((v ++ [x]).map D.int) (by unfold iWalk; rw [e2]; rfl) (by simp; omega) e1
              unfold sSetF
              have e4 : eBin catM (eVar 9) (eComp 1 [9] (iWalk (eBin addM (eBin ixDM (eVar 6) (eBin ixM (eVar 4) (eVar 10))) (eLst (aCons (eBin ixM (eVar 4) (eVar 10)) aNil)))) (g1 0) (tV (eBin (inM true) (eVar 0) (eVar 1))) (eVar 0)) [some (lstI dr), some (.int n), some (.int th), v3.all, some (lstI word), kv.all, some (.dic ((word.take j).map Sum.inl) (us.map lstI)), some (.int ((n + Ord.tri j + i : Nat) : Int)), some (.int j), some (lstI u), some (.int i)] = some (lstI (u ++ (v ++ [x]).filter fun a => !u.contains a)) := by
                refine binE (x := lstI u) rfl e3 ?_
                show catM (.lst (u.map D.int)) _ = _
                rw [catM_lst (by simp only [List.length_map, List.length_append, List.length_cons, List.length_nil] at hf ⊢; omega), ← List.map_append]
                rfl
              rw [show vAll _ = [some (lstI dr), some (.int n), some (.int th), v3.all, some (lstI word), kv.all, some (.dic ((word.take j).map Sum.inl) (us.map lstI)), some (.int ((n + Ord.tri j + i : Nat) : Int)), some (.int j), some (lstI u), some (.int i)] from rfl, e4]
              show (if lstImm (lstI _) = true then _ else _) = _
              rw [if_pos (show lstImm (lstI _) = true from imms_ints _)]
              rfl
          rintro _ ⟨u', hU', rfl⟩
          exact ⟨_, rfl, u', _, hU', rfl⟩
        · rintro _ ⟨u, v10, hU, rfl⟩
          exact ⟨u, v10, hU, by rw [Nat.add_assoc]; rfl⟩
      rintro _ ⟨u, v10, hU, rfl⟩
      obtain ⟨x, hx⟩ : ∃ x, word[j]? = some x := ⟨_, List.getElem?_eq_getElem (by omega)⟩
      refine ⟨[Sv.ro (lstI dr), Sv.ro (.int n), Sv.ro (.int th), v3, Sv.ow (lstI word), kv, Sv.ow (.dic ((word.take (j + 1)).map Sum.inl) ((us ++ [u]).map lstI)), Sv.ro (.int ((n + Ord.tri (j + 1) : Nat) : Int)), Sv.ro (.int j), Sv.ro (lstI u), v10], ?_, us ++ [u], Sv.ro (.int j), Sv.ro (lstI u), v10, by simp [hul], hg.snoc (by rw [hul]; exact hU), rfl⟩
      have hno : lookM ((word.take j).map Sum.inl) (us.map lstI) (Sum.inl x) = none := look_none fun hm => by
        obtain ⟨t, ht⟩ := List.mem_iff_getElem?.mp hm
        have htl : t < j := by
          have := (List.getElem?_eq_some_iff.mp ht).1
          rw [List.length_take] at this
          omega
        rw [List.getElem?_take_of_lt htl] at ht
        have := Ord.ix_inj ndw ht hx
        omega
      unfold sPutN
      walk_at "ev"
      simp only [ownDic, Option.bind_some]
      have e5 : ixM (lstI word) (.int (j : Int)) = some (.int x) := ints_at hx
      rw [e5]
      simp only [Option.bind_some, keyM, hno, Option.isNone_none, true_and]
      rw [if_pos (by rw [List.length_map]; show us.length < 16777216; omega), List.take_succ, hx, List.map_append, List.map_append]
      rfl
    · rintro _ ⟨us, v8, v9, v10, hul, hg, rfl⟩
      refine ⟨us, Sv.ro (.int ((n + Ord.tri n : Nat) : Int)), v8, v9, v10, hul, hg, ?_⟩
      rw [List.take_of_length_le (by omega)]
  rintro _ ⟨us, v7, v8, v9, v10, hul, hg, rfl⟩
  have ec : ∃ rows : List (List Int), rows.length = (List.range n).length ∧ (∀ (i : Nat) (b : Nat) (r : List Int), (List.range n)[i]? = some b → rows[i]? = some r → ∀ (t : Nat) (u : List Int), word[t]? = some (b : Int) → us[t]? = some u → r.Perm u ∧ r.Pairwise (· ≤ ·)) ∧
      compF (g1 0) tTrue (eCB tupleM (aCons (eCB sortedM (aCons (eBin ixDM (eVar 1) (eVar 0)) aNil)) aNil)) [none, some (.dic (word.map Sum.inl) (us.map lstI))] ((List.range n).map fun b : Nat => D.int (b : Int)) = some (rows.map tupI) := by
    refine comp_rel (fun b : Nat => D.int (b : Int)) tupI _ (List.range n) fun b hb => ?_
    have hb2 := List.mem_range.mp hb
    have hm : (b : Int) ∈ word := hpw.mem_iff.mpr (List.mem_map.mpr ⟨b, hb, rfl⟩)
    obtain ⟨t, ht⟩ := List.mem_iff_getElem?.mp hm
    obtain ⟨u, hu2⟩ : ∃ u, us[t]? = some u := ⟨_, List.getElem?_eq_getElem (by have := (List.getElem?_eq_some_iff.mp ht).1; omega)⟩
    have lu := lenU _ _ (hg t u hu2)
    refine ⟨_, sortI u, rfl, ?_, fun t' u' e1 e2 => ?_⟩
    · walk_at "ev"
      simp only [ixDM, keyM, Option.bind_some]
      rw [look_word ndw ht hu2]
      simp only [lstI]
      walk_at "ev"
      rw [sorted_ints (by omega)]
      rfl
    · have e := Ord.ix_inj ndw e1 ht
      subst e
      rw [hu2] at e2
      cases e2
      exact ⟨sortI_perm u, sortI_sorted u⟩
  obtain ⟨rows, hr1, hr2, ec⟩ := ec
  rw [List.length_range] at hr1
  refine rt_ret (ordD rows) ?_ ⟨rows, hr1, hg.rows hul hpw hr1 fun b t r u e1 e2 e3 => hr2 b b r (by rw [List.getElem?_range (by have := (List.getElem?_eq_some_iff.mp e1).1; omega)]) e1 t u e2 e3, rfl⟩
  have e6 : (rngP 0 n).map D.int = (List.range n).map fun b : Nat => D.int (b : Int) := by
    unfold rngP
    rw [List.map_map]
    exact List.map_congr_left fun b _ => by show D.int (0 + (b : Int)) = _; rw [Int.zero_add]
  have e7 := compE (nl := 1) (fr := [6]) (it := iRange (aCons (eVar 1) aNil)) (g := g1 0) (t := tTrue) (e := eCB tupleM (aCons (eCB sortedM (aCons (eBin ixDM (eVar 1) (eVar 0)) aNil)) aNil)) (ρ := vAll [Sv.ro (lstI dr), Sv.ro (.int n), Sv.ro (.int th), v3, Sv.ow (lstI word), kv, Sv.ow (.dic (word.map Sum.inl) (us.map lstI)), v7, v8, v9, v10]) ((rngP 0 n).map D.int)
    (by walk_at "ev"; exact rangeM_n (by omega)) (by rw [List.length_map, rngP_length]; omega) (by rw [e6]; exact ec)
  exact cb1E e7 rfl
theorem tri_two (n : Nat) : 2 * Ord.tri n + n = n * n := by
  induction n with
  | zero => rfl
  | succ n ih =>
    show 2 * (Ord.tri n + n) + (n + 1) = (n + 1) * (n + 1)
    have : (n + 1) * (n + 1) = n * n + 2 * n + 1 := by rw [Nat.add_mul, Nat.mul_add]; omega
    omega
theorem drawn_ok (ns : List Int) (k m s : Int) (h0 : 0 ≤ m) (h1 : m ≤ 9) :
    ∃ d, f_l_drawn [.scr ns, .int k, .int m, .int s] = .ok d ∧ ∃ rows : List (List Int), (rows.length : Int) ≤ m ∧ Ord.Rows rows ∧ d = ordD rows := by
  unfold f_l_drawn
  refine run_ok rfl ?_
  obtain ⟨c1, ec1⟩ := cell_ok ns k
  obtain ⟨xs, hx, hxn, ex⟩ := draws_ok c1 4 s (by decide) (by decide)
  obtain ⟨c2, ec2⟩ := cell_ok ns (k + 1)
  obtain ⟨a, b, r, rfl⟩ : ∃ a b r, xs = a :: b :: r := by
    match xs, hx with
    | a :: b :: r, _ => exact ⟨a, b, r, rfl⟩
  have hm0 := Int.emod_nonneg a (show m + 1 ≠ 0 by omega)
  have hm1 := Int.emod_lt_of_pos a (show 0 < m + 1 by omega)
  obtain ⟨n, hn⟩ : ∃ n : Nat, a % (m + 1) = (n : Int) := ⟨(a % (m + 1)).toNat, by omega⟩
  have hn9 : n ≤ 9 := by omega
  have et := tri_two n
  have hq : (n : Int) * ((n : Int) - 1) / 2 = (Ord.tri n : Int) := by
    have : (n : Int) * ((n : Int) - 1) = 2 * (Ord.tri n : Int) := by
      have e2 : ((n * n : Nat) : Int) = (n : Int) * n := by simp
      rw [Int.mul_sub, Int.mul_one]
      omega
    rw [this, Int.mul_ediv_cancel_left _ (by decide)]
  have htri : Ord.tri n ≤ 36 := Ord.tri_le hn9
  obtain ⟨ys, hy, hyn, ey⟩ := draws_ok c2 ((n : Int) + Ord.tri n) (s + 10007) (by omega) (by omega)
  refine rt_seqE _ (setE (lstI (a :: b :: r)) (call3E (call2E rfl rfl ec1) rfl rfl ex) rfl) ?_
  refine rt_seqE _ (setE (.int n) ?_ rfl) ?_
  · simp only [lstI]
    walk_at "ev"
    rw [show atP (D.int a :: D.int b :: r.map D.int) 0 = some (D.int a) from atP_get (k := 0) rfl]
    walk_at "ev"
    rw [modM_int (by omega), hn]
  refine rt_seqE _ (setE (lstI ys) (call3E (call2E rfl rfl ec2) ?_ rfl ey) rfl) ?_
  · walk_at "ev"
    rw [mulM_l (by omega)]
    walk_at "ev"
    rw [divM_int (by decide) (by decide), hq]
    walk_at "ev"
  have hb0 := Int.emod_nonneg b (show (8 : Int) ≠ 0 by decide)
  have hb1 := Int.emod_lt_of_pos b (show (0 : Int) < 8 by decide)
  have hth : ∃ th : Int, eBin ixM (eLst (aCons (eC (.int 1)) (aCons (eC (.int 1)) (aCons (eC (.int 2)) (aCons (eC (.int 2)) (aCons (eC (.int 3)) (aCons (eC (.int 1)) (aCons (eC (.int 0)) (aCons (eC (.int 4)) aNil))))))))) (eBin modM (eBin ixM (eVar 4) (eC (.int 1))) (eC (.int 8))) [some (.scr ns), some (.int k), some (.int m), some (.int s), some (lstI (a :: b :: r)), some (.int n), some (lstI ys)] = some (.int th) := by
    obtain ⟨x, hx, e, _⟩ := atP_ok (xs := [(1 : Int), 1, 2, 2, 3, 1, 0, 4]) (i := b % 8) hb0 hb1
    refine ⟨x, binE (x := .lst ([(1 : Int), 1, 2, 2, 3, 1, 0, 4].map D.int)) rfl (y := .int (b % 8)) ?_ ?_⟩
    · refine binE (x := .int b) (y := .int 8) ?_ rfl (modM_int (by decide))
      simp only [lstI]
      walk_at "ev"
      exact atP_get (k := 1) rfl
    · rw [ixM_lst, atP_map, e]; rfl
  obtain ⟨th, eth⟩ := hth
  obtain ⟨d, ed, rows, hr1, hr2, rfl⟩ := order_ok ys n th hn9 (by omega)
  exact rt_ret (ordD rows) (call3E rfl rfl eth ed) ⟨rows, by omega, hr2, rfl⟩
end LL
end
section
set_option Elab.async false
set_option linter.all false
set_option maxRecDepth 100000
namespace LL
open PySem L3 L4
noncomputable def f_things_above : FnF := runF 2 2
    (sRet (eCB tupleM (aCons (eComp 2 [1] (iEnum (aCons (eVar 0) aNil)) (g2 0 1) (tV (eBin (inM false) (eVar 2) (eVar 1))) (eVar 0)) aNil)))
noncomputable def f_upside_down : FnF := runF 1 1
    (sRet (eCB tupleM (aCons (eComp 1 [0] (iRange (aCons (eCB lenM (aCons (eVar 0) aNil)) aNil)) (g1 0) tTrue (eCall LL.f_things_above (aCons (eVar 1) (aCons (eVar 0) aNil)))) aNil)))
end LL
end
section
set_option Elab.async false
set_option linter.all false
set_option maxRecDepth 100000
set_option maxHeartbeats 999999
namespace LL
open PySem L3 L4
noncomputable def plainD : Nat → D → Prop
  | 0, _ => False
  | n + 1, .tup ds => ds.length ≤ 1000000 ∧ ∀ d ∈ ds, plainD n d
  | _ + 1, .int _ => True
  | _ + 1, .bl _ => True
  | _ + 1, .non => True
  | _ + 1, .str _ => True
  | _ + 1, _ => False
theorem isi {T : String} {f : EF} {ρ : DEnv} {d : D} (h : f ρ = some d) (hn : notE d = true := by rfl) : eIsi T f ρ = some (.bl (isTM T d)) := by unfold eIsi; rw [h]; exact if_pos hn
theorem same_refl : ∀ (n : Nat) (d : D), plainD n d → f_l_same n [d, d] = .ok (.bl true)
  | 0, _, h => h.elim
  | n + 1, .tup ds, h => by
    have hl := h.1
    unfold f_l_same
    refine runE rfl (seqR (ifT (by unfold tV; rw [isi rfl]; rfl) (seqE _ (ifF ?_ rfl) (retE ?_))))
    · simp only [startS, sSeq, sIf, sRet, sSet, sSetX, sOwn, sOwnI, sSetF, sOwnD, sX, sFor, sEnd, eVar, eC, eBin, tV, tNot, tAnd, tOr, eAnd, eOr, eNot, eIf, eNeg, eChain, aNil, aCons, eCB, eCall, mOpt, eIsi, iWalk, iRange, iEnum, iZip, iRev, g1, g2, gN1, gN2, pairM, tTrue, benv, eSl, oNo, oE, asInt, xPureR, xM1, ownL, vAll, vRd, Sv.all, Sv.rd, List.map_cons, List.map_nil, List.getElem?_cons_zero, List.getElem?_cons_succ, List.getElem?_nil, Option.join_some, Option.join_none, Option.bind_some, Option.bind_none, Option.map_some, Option.map_none, List.set_cons_zero, List.set_cons_succ, List.set_nil, List.length_cons, List.length_nil, List.length_map, List.cons_append, List.nil_append, List.replicate_succ, List.replicate_zero, Nat.reduceSub, Nat.reduceAdd, Nat.reduceEqDiff, truthM_bl, truthM_lst, truthM_tup, boolM_bl, negM, addM_int, subM_int, ltM_int, leM_int, gtM_int, geM_int, eqM_int, neM_int, eqM_bl, eqM_str, isM_non, isNon, ixM_lst, ixM_tup, ixM_scr, lenM_lst, lenM_tup, lenM_scr, tupleM_lst, tupleM_tup, listM_lst, listM_tup, walkM_lst, walkM_tup, enumM_tup, enumM_lst, revM_tup, revM_lst, if_true, if_false, ite_true, ite_false, reduceIte, decide_true, decide_false, decide_eq_true_eq, Bool.false_eq_true, Bool.not_true, Bool.not_false, inM_tup, inM_lst]
      simp [isTM, tyM, startS, vAll, eIsi, notE, eVar, Sv.all, truthM]
    · have e1 := compE (nl := 1) (fr := [0, 1]) (it := iRange (aCons (eCB lenM (aCons (eVar 1) aNil)) aNil)) (g := g1 0) (t := tTrue) (e := eCall (f_l_same n) (aCons (eBin ixM (eVar 1) (eVar 0)) (aCons (eBin ixM (eVar 2) (eVar 0)) aNil))) (ρ := [some (.tup ds), some (.tup ds)]) ((rngP 0 ds.length).map D.int) (ys := (rngP 0 ds.length).map fun _ => D.bl true)
        (by simp only [startS, sSeq, sIf, sRet, sSet, sSetX, sOwn, sOwnI, sSetF, sOwnD, sX, sFor, sEnd, eVar, eC, eBin, tV, tNot, tAnd, tOr, eAnd, eOr, eNot, eIf, eNeg, eChain, aNil, aCons, eCB, eCall, mOpt, eIsi, iWalk, iRange, iEnum, iZip, iRev, g1, g2, gN1, gN2, pairM, tTrue, benv, eSl, oNo, oE, asInt, xPureR, xM1, ownL, vAll, vRd, Sv.all, Sv.rd, List.map_cons, List.map_nil, List.getElem?_cons_zero, List.getElem?_cons_succ, List.getElem?_nil, Option.join_some, Option.join_none, Option.bind_some, Option.bind_none, Option.map_some, Option.map_none, List.set_cons_zero, List.set_cons_succ, List.set_nil, List.length_cons, List.length_nil, List.length_map, List.cons_append, List.nil_append, List.replicate_succ, List.replicate_zero, Nat.reduceSub, Nat.reduceAdd, Nat.reduceEqDiff, truthM_bl, truthM_lst, truthM_tup, boolM_bl, negM, addM_int, subM_int, ltM_int, leM_int, gtM_int, geM_int, eqM_int, neM_int, eqM_bl, eqM_str, isM_non, isNon, ixM_lst, ixM_tup, ixM_scr, lenM_lst, lenM_tup, lenM_scr, tupleM_lst, tupleM_tup, listM_lst, listM_tup, walkM_lst, walkM_tup, enumM_tup, enumM_lst, revM_tup, revM_lst, if_true, if_false, ite_true, ite_false, reduceIte, decide_true, decide_false, decide_eq_true_eq, Bool.false_eq_true, Bool.not_true, Bool.not_false, inM_tup, inM_lst]; exact rangeM_n (by omega)) (by rw [List.length_map, rngP_length]; omega) (comp_mapA D.int (fun _ => D.bl true) (rngP 0 ds.length) fun k hk => by
          have hk := rngP_mem.mp hk
          obtain ⟨x, hx, e, _⟩ := atP_ok (xs := ds) (i := k) (by omega) (by omega)
          show eCall (f_l_same n) _ _ = _
          exact call2E (binE rfl rfl e) (binE rfl rfl e) (same_refl n x (h.2 x hx)))
      refine cb1E e1 ?_
      have : (rngP 0 ds.length).map (fun _ => D.bl true) = ((rngP 0 ds.length).map fun _ => true).map D.bl := by rw [List.map_map]; rfl
      rw [this, all_bls]
      congr 2
      simp
  | n + 1, .int i, _ => by
    unfold f_l_same
    refine runE rfl (seqE _ (ifF rfl rfl) (seqE _ (ifF rfl rfl) (seqE _ (ifF rfl rfl) (seqR (ifT rfl (retE ?_))))))
    show eAnd _ _ _ = _
    simp [eAnd, eNot, eIsi, notE, eVar, isTM, tyM, boolM, eBin, eqM_int, eqM_bl, eqM_str, startS, vAll, Sv.all]
  | n + 1, .bl b, _ => by
    unfold f_l_same
    refine runE rfl (seqE _ (ifF rfl rfl) (seqE _ (ifF rfl rfl) (seqR (ifT rfl (retE ?_)))))
    simp [eAnd, eNot, eIsi, notE, eVar, isTM, tyM, boolM, eBin, eqM_int, eqM_bl, eqM_str, startS, vAll, Sv.all]
  | n + 1, .non, _ => by
    unfold f_l_same
    exact runE rfl (seqE _ (ifF rfl rfl) (seqR (ifT rfl (retE rfl))))
  | n + 1, .str x, _ => by
    unfold f_l_same
    refine runE rfl (seqE _ (ifF rfl rfl) (seqE _ (ifF rfl rfl) (seqE _ (ifF rfl rfl) (seqE _ (ifF rfl rfl) (retE ?_)))))
    simp [eAnd, eNot, eIsi, notE, eVar, isTM, tyM, boolM, eBin, eqM_int, eqM_bl, eqM_str, startS, vAll, Sv.all]
  | n + 1, .lst _, h => h.elim
  | n + 1, .scr _, h => h.elim
  | n + 1, .dic _ _, h => h.elim
  | n + 1, .dicT _ _ _, h => h.elim
  | n + 1, .exc _ _, h => h.elim
theorem plain_tupI {n : Nat} {xs : List Int} (h : xs.length ≤ 1000000) : plainD (n + 2) (tupI xs) := ⟨by rw [List.length_map]; exact h, fun d hd => by
  obtain ⟨i, _, rfl⟩ := List.mem_map.mp hd; trivial⟩
theorem plain_ordD {n : Nat} {rows : List (List Int)} (h : rows.length ≤ 1000000) (h2 : ∀ r ∈ rows, r.length ≤ 1000000) : plainD (n + 3) (ordD rows) := ⟨by rw [List.length_map]; exact h, fun d hd => by
  obtain ⟨r, hr, rfl⟩ := List.mem_map.mp hd; exact plain_tupI (h2 r hr)⟩
end LL
end
section
set_option Elab.async false
set_option linter.all false
set_option maxRecDepth 100000
set_option maxHeartbeats 999999
namespace LL
open PySem L3 L4
noncomputable def row (rows : List (List Int)) (b : Int) : List Int := (rows[b.toNat]?).getD []
theorem ord_at {rows : List (List Int)} {i : Int} (h0 : 0 ≤ i) (h1 : i < rows.length) : ixM (ordD rows) (.int i) = some (tupI (row rows i)) := by
  have hl : i.toNat < rows.length := by omega
  rw [show ordD rows = .tup (rows.map tupI) from rfl, ixM_tup, atP_map]
  unfold atP row
  rw [ixP_ok h0 h1]
  simp [hl]
theorem in_tup {i : Int} {xs : List Int} : inM false (.int i) (tupI xs) = some (.bl (xs.contains i)) := by
  unfold tupI; rw [inM_tup]; rfl
theorem nin_tup {i : Int} {xs : List Int} : inM true (.int i) (tupI xs) = some (.bl (!xs.contains i)) := by
  unfold tupI; rw [inM_tup]; rfl
theorem len_ord {rows : List (List Int)} : lenM [ordD rows] = some (.int rows.length) := by unfold ordD; rw [lenM_tup, List.length_map]
noncomputable def looseB (rows : List (List Int)) (a b : Int) : Bool := !decide (a = b) && (!(row rows b).contains a && !(row rows a).contains b)
noncomputable def looseAt (rows : List (List Int)) (a : Int) : List (Int × Int) := ((rngP (a + 1) (rows.length - (a + 1)).toNat).filter fun b => looseB rows a b).map fun b => (a, b)
noncomputable def loose (rows : List (List Int)) : List (Int × Int) := (rngP 0 rows.length).flatMap (looseAt rows)
end LL
end
section
set_option Elab.async false
set_option linter.all false
set_option maxRecDepth 100000
namespace Ord
noncomputable def rel (rows : List (List Int)) (a b : Nat) : Bool := (rows.getD b []).contains (a : Int)
end Ord
end
section
set_option Elab.async false
set_option linter.all false
set_option maxRecDepth 100000
set_option maxHeartbeats 999999
namespace Ord
theorem Rows.short {x : List (List Int)} (h : Rows x) {r : List Int} (hr : r ∈ x) : r.length ≤ x.length := by
  obtain ⟨b, hb⟩ := List.mem_iff_getElem?.mp hr
  have nd : r.Nodup := (h.up b r hb).imp fun q => by omega
  have := length_sub r (L4.rngP 0 x.length) nd fun a ha => LL.rngP_mem.mpr (by have := h.rng b r hb a ha; omega)
  rwa [LL.rngP_length] at this
end Ord
end
section
set_option Elab.async false
set_option linter.all false
set_option maxRecDepth 100000
namespace K45
open PySem L3 L4
noncomputable def f_names_in_row_turned : FnF := runF 2 2
    (sRet (eCB tupleM (aCons (eComp 1 [1] (iRev (aCons (eVar 0) aNil)) (g1 0) tTrue (eBin subM (eBin subM (eVar 1) (eC (.int 1))) (eVar 0))) aNil)))
noncomputable def f_names_turned : FnF := runF 1 1
    (sRet (eCB tupleM (aCons (eComp 1 [0] (iRev (aCons (eVar 0) aNil)) (g1 0) tTrue (eCall f_names_in_row_turned (aCons (eVar 0) (aCons (eCB lenM (aCons (eVar 1) aNil)) aNil)))) aNil)))
noncomputable def f_l_ties : FnF := runF 3 1
    (sSeq (sSet 1 (eLst aNil))
    (sSeq (sFor (iRange (aCons (eCB lenM (aCons (eVar 0) aNil)) aNil)) (gN1 2)
      (sSet 1 (eBin addM (eVar 1) (eComp 1 [2] (iWalk (eBin ixM (eVar 0) (eVar 2))) (g1 0) tTrue (eTup (aCons (eVar 0) (aCons (eVar 1) aNil)))))))
    (sRet (eCB sortTM (aCons (eVar 1) aNil)))))
noncomputable def f_l_from : FnF := runF 2 2
    (sRet (eCB tupleM (aCons (eComp 1 [1] (iRange (aCons (eVar 0) aNil)) (g1 0) tTrue (eCB tupleM (aCons (eCB sortedM (aCons (eComp 2 [0] (iWalk (eVar 1)) (g2 0 1) (tV (eBin eqM (eVar 1) (eVar 2))) (eVar 0)) aNil)) aNil))) aNil)))
noncomputable def f_law : FnF := runF 7 1
    (sSeq (sSet 1 (eCall LL.f_l_drawn (aCons (eVar 0) (aCons (eC (.int 0)) (aCons (eC (.int 9)) (aCons (eC (.int 100003)) aNil))))))
    (sSeq (sSet 2 (eCB lenM (aCons (eVar 1) aNil)))
    (sSeq (sSet 3 (eCall f_l_ties (aCons (eVar 1) aNil)))
    (sSeq (sSet 4 (eCall f_l_from (aCons (eVar 2) (aCons (eComp 2 [2] (iWalk (eVar 3)) (g2 0 1) tTrue (eTup (aCons (eBin subM (eBin subM (eVar 2) (eC (.int 1))) (eVar 0)) (aCons (eBin subM (eBin subM (eVar 2) (eC (.int 1))) (eVar 1)) aNil)))) aNil))))
    (sSeq (sSet 5 (eCall f_l_from (aCons (eVar 2) (aCons (eComp 2 [] (iWalk (eVar 3)) (g2 0 1) tTrue (eTup (aCons (eVar 1) (aCons (eVar 0) aNil)))) aNil))))
    (sSeq (sSet 6 (eCall f_l_from (aCons (eVar 2) (aCons (eComp 2 [2] (iWalk (eVar 3)) (g2 0 1) tTrue (eTup (aCons (eBin subM (eBin subM (eVar 2) (eC (.int 1))) (eVar 1)) (aCons (eBin subM (eBin subM (eVar 2) (eC (.int 1))) (eVar 0)) aNil)))) aNil))))
    (sSeq (sIf (tOr (tNot (tV (eCall (LL.f_l_same 6) (aCons (eCall f_names_turned (aCons (eVar 1) aNil)) (aCons (eVar 4) aNil))))) (tNot (tV (eCall (LL.f_l_same 6) (aCons (eCall LL.f_upside_down (aCons (eVar 1) aNil)) (aCons (eVar 5) aNil))))))
      (sRet (eC (.bl false)))
      sEnd)
    (sSeq (sIf (tOr (tNot (tV (eCall (LL.f_l_same 6) (aCons (eCall f_names_turned (aCons (eVar 4) aNil)) (aCons (eVar 1) aNil))))) (tNot (tV (eCall (LL.f_l_same 6) (aCons (eCall LL.f_upside_down (aCons (eVar 5) aNil)) (aCons (eVar 1) aNil))))))
      (sRet (eC (.bl false)))
      sEnd)
    (sRet (eAnd (eCall (LL.f_l_same 6) (aCons (eCall f_names_turned (aCons (eVar 5) aNil)) (aCons (eVar 6) aNil))) (eCall (LL.f_l_same 6) (aCons (eCall LL.f_upside_down (aCons (eVar 4) aNil)) (aCons (eVar 6) aNil)))))))))))))
end K45
end
section
set_option Elab.async false
set_option linter.all false
set_option maxRecDepth 100000
set_option maxHeartbeats 999999
namespace K45
open PySem L3 L4 LL
noncomputable def pr (p : Int × Int) : List Int := [p.1, p.2]
noncomputable def tiesL (x : List (List Int)) (k : Nat) : List (Int × Int) := (rngP 0 k).flatMap fun b => (row x b).map fun a => (a, b)
noncomputable def un (t : List Int) : Int × Int := (t.getD 0 0, t.getD 1 0)
noncomputable def srt (l : List (Int × Int)) : List (Int × Int) := (sortT (l.map pr)).map un
end K45
end
section
set_option Elab.async false
set_option linter.all false
set_option maxRecDepth 100000
namespace K03
open PySem L3 L4
noncomputable def f_ties_of : FnF := runF 4 1
    (sSeq (sOwn 1 (eLst aNil))
    (sSeq (sFor (iEnum (aCons (eVar 0) aNil)) (gN2 2 3)
      (sX (xM1 1 extM (xPureR (eComp 1 [2] (iWalk (eVar 3)) (g1 0) tTrue (eTup (aCons (eVar 0) (aCons (eVar 1) aNil))))))))
    (sRet (eCB tupleM (aCons (eCB sortTM (aCons (eVar 1) aNil)) aNil)))))
noncomputable def f_is_bare : FnF := runF 4 2
    (sSeq (sSet 2 (eBin ixM (eVar 1) (eC (.int 0))))
    (sSeq (sSet 3 (eBin ixM (eVar 1) (eC (.int 1))))
    (sRet (eNot (eCB anyM (aCons (eComp 1 [2, 0] (iWalk (eBin ixM (eVar 0) (eVar 3))) (g1 0) tTrue (eBin (inM false) (eVar 1) (eBin ixM (eVar 2) (eVar 0)))) aNil))))))
noncomputable def f_bare_ties : FnF := runF 1 1
    (sRet (eCB tupleM (aCons (eComp 1 [0] (iWalk (eCall f_ties_of (aCons (eVar 0) aNil))) (g1 0) (tV (eCall f_is_bare (aCons (eVar 1) (aCons (eVar 0) aNil)))) (eVar 0)) aNil)))
noncomputable def f_l_ties : FnF := runF 3 1
    (sSeq (sSet 1 (eLst aNil))
    (sSeq (sFor (iRange (aCons (eCB lenM (aCons (eVar 0) aNil)) aNil)) (gN1 2)
      (sSet 1 (eBin addM (eVar 1) (eComp 1 [2] (iWalk (eBin ixM (eVar 0) (eVar 2))) (g1 0) tTrue (eTup (aCons (eVar 0) (aCons (eVar 1) aNil)))))))
    (sRet (eCB sortTM (aCons (eVar 1) aNil)))))
noncomputable def f_l_closed : FnF := runF 9 2
    (sSeq (sOwn 2 (eLst aNil))
    (sSeq (sFor (iRange (aCons (eVar 0) aNil)) (gN1 3)
      (sSeq (sOwn 4 (eLst aNil))
      (sSeq (sOwn 5 (eLst (aCons (eVar 3) aNil)))
      (sSeq (sWhile whileN (tV (eBin gtM (eCB lenM (aCons (eVar 5) aNil)) (eC (.int 0))))
        (sSeq (sSetX 6 (xPop0 5))
        (sFor (iWalk (eVar 1)) (gN2 7 8)
          (sIf (tAnd (tV (eBin eqM (eVar 8) (eVar 6))) (tV (eBin (inM true) (eVar 7) (eVar 4))))
            (sSeq (sX (xM1 4 appM (xPureR (eVar 7))))
            (sX (xM1 5 appM (xPureR (eVar 7)))))
            sEnd))))
      (sSeq (sIf (tV (eBin (inM false) (eVar 3) (eVar 4)))
        (sRet (eC .non))
        sEnd)
      (sX (xM1 2 appM (xPure (eCB tupleM (aCons (eCB sortedM (aCons (eVar 4) aNil)) aNil))))))))))
    (sRet (eCB tupleM (aCons (eVar 2) aNil)))))
noncomputable def f_l_bare : FnF := runF 5 1
    (sSeq (sOwn 1 (eLst aNil))
    (sSeq (sFor (iWalk (eCall f_l_ties (aCons (eVar 0) aNil))) (gN2 2 3)
      (sSeq (sSet 4 (eComp 1 [2, 0, 3] (iRange (aCons (eCB lenM (aCons (eVar 0) aNil)) aNil)) (g1 0) (tAnd (tV (eBin (inM false) (eVar 1) (eBin ixM (eVar 2) (eVar 0)))) (tV (eBin (inM false) (eVar 0) (eBin ixM (eVar 2) (eVar 3))))) (eVar 0)))
      (sIf (tV (eBin eqM (eCB lenM (aCons (eVar 4) aNil)) (eC (.int 0))))
        (sX (xM1 1 appM (xPureR (eTup (aCons (eVar 2) (aCons (eVar 3) aNil))))))
        sEnd)))
    (sRet (eVar 1))))
noncomputable def f_l_right : FnF := runF 2 1
    (sSeq (sSet 1 (eCall f_bare_ties (aCons (eVar 0) aNil)))
    (sSeq (sIf (tOr (tNot (tV (eCall (LL.f_l_same 6) (aCons (eCall f_ties_of (aCons (eVar 0) aNil)) (aCons (eCB tupleM (aCons (eCall f_l_ties (aCons (eVar 0) aNil)) aNil)) aNil))))) (tNot (tV (eCall (LL.f_l_same 6) (aCons (eVar 1) (aCons (eCB tupleM (aCons (eCall f_l_bare (aCons (eVar 0) aNil)) aNil)) aNil))))))
      (sRet (eC (.bl false)))
      sEnd)
    (sRet (eBin eqTM (eCall f_l_closed (aCons (eCB lenM (aCons (eVar 0) aNil)) (aCons (eVar 1) aNil))) (eVar 0)))))
noncomputable def f_law : FnF := runF 3 1
    (sSeq (sSet 1 (eCall LL.f_l_drawn (aCons (eVar 0) (aCons (eC (.int 0)) (aCons (eC (.int 9)) (aCons (eC (.int 100003)) aNil))))))
    (sSeq (sSet 2 (eCall LL.f_l_drawn (aCons (eVar 0) (aCons (eC (.int 2)) (aCons (eC (.int 9)) (aCons (eC (.int 300007)) aNil))))))
    (sRet (eAnd (eCall f_l_right (aCons (eVar 1) aNil)) (eAnd (eCall f_l_right (aCons (eVar 2) aNil)) (eCall f_l_right (aCons (eVar 1) aNil)))))))
end K03
end
section
set_option Elab.async false
set_option linter.all false
set_option maxRecDepth 100000
set_option maxHeartbeats 999999
namespace K03
open PySem L3 L4 LL K45
section
variable {x : List (List Int)} (hx : Ord.Rows x)
include hx
end
noncomputable def isBare (x : List (List Int)) (p : Int × Int) : Bool := !(row x p.2).any fun c => (row x c).contains p.1
structure Cl (x : List (List Int)) (P : List (Int × Int)) (b : Int) (u f : List Int) : Prop where
  nd : u.Nodup
  sub : ∀ a ∈ u, a ∈ row x b
  fr : ∀ a ∈ f, a = b ∨ a ∈ u
  cl : ∀ c, (c = b ∨ c ∈ u) → c ∉ f → ∀ a, (a, c) ∈ P → a ∈ u
noncomputable abbrev T (x : List (List Int)) : List (Int × Int) := srt (tiesL x x.length)
noncomputable abbrev B (x : List (List Int)) : List (Int × Int) := (T x).filter (isBare x)
end K03
end
section
set_option Elab.async false
set_option linter.all false
set_option maxRecDepth 100000
namespace LL
open PySem L3 L4
noncomputable def f_l_great : FnF := runF 5 3
    (sSeq (sIf (tV (eBin geM (eVar 0) (eBin powM (eC (.int 10)) (eC (.int 18)))))
      (sRet (eBin modM (eBin divM (eVar 0) (eC (.int 64))) (eVar 1)))
      sEnd)
    (sSeq (sSet 3 (eC (.int 0)))
    (sSeq (sFor (iRange (aCons (eC (.int 20)) aNil)) (gN1 4)
      (sSet 3 (eBin addM (eBin mulM (eVar 3) (eC (.int 1000000007))) (eCall LL.f_l_mixed (aCons (eVar 0) (aCons (eVar 4) (aCons (eVar 2) aNil)))))))
    (sRet (eBin modM (eVar 3) (eVar 1))))))
end LL
end
section
set_option Elab.async false
set_option linter.all false
set_option maxRecDepth 100000
set_option maxHeartbeats 999999
namespace LL
open PySem L3 L4
theorem runX {n np : Nat} {b : SF} {ds : List D} {c : Str} (hl : ds.length = np) (h : b (startS n ds) = .ex c) : runF n np b ds = .ex c := by
  unfold runF
  rw [if_pos hl, h]
theorem seqX {f g : SF} {ρ : SEnv} {c : Str} (h : f ρ = .ex c) : sSeq f g ρ = .ex c := by
  unfold sSeq
  rw [h]
theorem thrX {r : RF} {f : SF} {ρ : SEnv} {c : Str} (h : r (vAll ρ) = some c) : sThr r f ρ = .ex c := by
  unfold sThr
  rw [h]
theorem thrN {r : RF} {f : SF} {ρ : SEnv} {o : Out} (h : r (vAll ρ) = none) (h2 : f ρ = o) : sThr r f ρ = o := by
  unfold sThr
  rw [h]
  exact h2
theorem rc1 {R : FnF} {a : EF} {ρ : DEnv} {x : D} {c : Option Str} (ha : a ρ = some x) (h : exOf (R [x]) = c) : rCall R (aCons a aNil) ρ = c := by
  unfold rCall
  rw [args1 ha]
  exact h
noncomputable def at0 (fl : List Int) (a : Int) : Int := (fl[a.toNat]?).getD 0
end LL
end
section
set_option Elab.async false
set_option linter.all false
set_option maxRecDepth 100000
set_option maxHeartbeats 999999
namespace LL
open PySem L3 L4
end LL
end
section
set_option Elab.async false
set_option linter.all false
set_option maxRecDepth 100000
namespace LL
open PySem L3 L4
end LL
end
section
set_option Elab.async false
set_option linter.all false
set_option maxRecDepth 100000
set_option maxHeartbeats 999999
namespace LL
open PySem L3 L4
noncomputable def both (r l : List Int) : List Int := sortI (nubI (r ++ l))
noncomputable def putR (b : Int) (lower : List Int) (p : List Int × Nat) : List Int := if decide ((p.2 : Int) = b) || p.1.contains b then both p.1 lower else p.1
noncomputable def put (x : List (List Int)) (a b : Int) : List (List Int) := x.zipIdx.map (putR b (row x a ++ [a]))
end LL
end
section
set_option Elab.async false
set_option linter.all false
set_option maxRecDepth 100000
namespace LL
open PySem L3 L4
end LL
end
section
set_option Elab.async false
set_option linter.all false
set_option maxRecDepth 100000
set_option maxHeartbeats 999999
namespace LL
open PySem L3 L4 K03 K45
end LL
end
section
set_option Elab.async false
set_option linter.all false
set_option maxRecDepth 100000
set_option maxHeartbeats 999999
namespace LL
open PySem L3 L4
noncomputable def f_joined : FnF := runF 2 2
    (sRet (eCB tupleM (aCons (eCB sortedPM (aCons (eBin addM (eVar 0) (eTup (aCons (eVar 1) aNil))) aNil)) aNil)))
noncomputable def f_ready_things : FnF := runF 3 2
    (sSeq (sSet 2 (eComp 1 [1] (iRange (aCons (eCB lenM (aCons (eVar 0) aNil)) aNil)) (g1 0) (tV (eBin (inM true) (eVar 0) (eVar 1))) (eVar 0)))
    (sRet (eComp 1 [1, 0] (iWalk (eVar 2)) (g1 0) (tV (eCB allM (aCons (eComp 1 [1] (iWalk (eBin ixM (eVar 2) (eVar 0))) (g1 0) tTrue (eBin (inM false) (eVar 0) (eVar 1))) aNil))) (eVar 0))))
noncomputable def readyI (x : List (List Int)) (a : List Int) : List Int := ((rngP 0 x.length).filter fun t => !a.contains t).filter fun t => (row x t).all fun l => a.contains l
noncomputable def joinI (a : List Int) (t : Int) : List Int := sortI (a ++ [t])
noncomputable def rdI (x : List (List Int)) (a : List Int) : List (List Int) := (readyI x a).map (joinI a)
noncomputable def okI (x : List (List Int)) (a : List Int) : Prop := a.Nodup ∧ ∀ t ∈ a, 0 ≤ t ∧ t < (x.length : Int)
theorem sorted_intsT {ns : List Int} (h : ns.length < 64) : sortedPM [.tup (ns.map D.int)] = some (.lst ((sortI ns).map D.int)) := by simp [sortedPM, intsOf_map, h]
theorem joined_ok {a : List Int} {t : Int} (h : a.length ≤ 9) : f_joined [tupI a, .int t] = .ok (tupI (joinI a t)) := by
  unfold f_joined
  refine runE rfl (retE (cb1E (x := lstI (joinI a t)) (cb1E (x := tupI (a ++ [t])) (binE (x := tupI a) (y := tupI [t]) rfl rfl ?_) ?_) rfl))
  · unfold tupI
    rw [addM_tup (by simp; omega), List.map_append]
  · have := sorted_intsT (ns := a ++ [t]) (by simp; omega)
    exact this
theorem ready_ok {x : List (List Int)} {a : List Int} (hx : x.length ≤ 9) (hr : ∀ r ∈ x, r.length ≤ 9) : f_ready_things [ordD x, tupI a] = .ok (lstI (readyI x a)) := by
  unfold f_ready_things readyI
  have e1 : eComp 1 [1] (iRange (aCons (eCB lenM (aCons (eVar 0) aNil)) aNil)) (g1 0) (tV (eBin (inM true) (eVar 0) (eVar 1))) (eVar 0) (vRd (startS 3 [ordD x, tupI a])) = some (lstI ((rngP 0 x.length).filter fun t => !a.contains t)) := by
    refine compE ((rngP 0 x.length).map D.int) (rng1E (cb1E rfl len_ord) (by omega)) (by rw [List.length_map, rngP_length]; omega) ?_
    exact comp_filter D.int _ D.int (rngP 0 x.length) fun t _ => ⟨[some (.int t), some (tupI a)], rfl, tvE (binE (x := .int t) (y := tupI a) rfl rfl nin_tup) rfl, fun _ => rfl⟩
  generalize hL : ((rngP 0 x.length).filter fun t => !a.contains t) = L at e1
  have Lr : ∀ t ∈ L, 0 ≤ t ∧ t < (x.length : Int) := fun t ht => by
    rw [← hL] at ht
    have := rngP_mem.mp (List.mem_filter.mp ht).1
    omega
  have Ll : L.length ≤ 9 := by
    rw [← hL]
    have := List.length_filter_le (fun t => !a.contains t) (rngP 0 x.length)
    rw [rngP_length] at this
    omega
  refine runE rfl (seqE _ (setE (lstI L) e1 rfl) (retE ?_))
  refine compE (L.map D.int) rfl (by rw [List.length_map]; omega) ?_
  refine comp_filter D.int _ D.int L fun t ht => ⟨[some (.int t), some (tupI a), some (ordD x)], rfl, ?_, fun _ => rfl⟩
  obtain ⟨t0, t1⟩ := Lr t ht
  have rl : (row x t).length ≤ 9 := by
    unfold row
    rw [List.getElem?_eq_getElem (by omega)]
    exact hr _ (List.getElem_mem _)
  refine tvE (d := .bl ((row x t).all fun l => a.contains l)) (cb1E (x := .lst (((row x t).map fun l => a.contains l).map D.bl)) ?_ ?_) rfl
  · refine Eq.trans (compE ((row x t).map D.int) ?_ (by rw [List.length_map]; omega) (comp_mapE D.int (fun l => .bl (a.contains l)) (row x t) fun l _ => ⟨[some (.int l), some (tupI a)], rfl, binE (x := .int l) (y := tupI a) rfl rfl in_tup⟩)) (by rw [List.map_map]; rfl)
    unfold iWalk
    rw [binE (x := ordD x) (y := .int t) (z := some (tupI (row x t))) rfl rfl (ord_at t0 t1)]
    rfl
  · rw [all_bls, List.all_map]
    rfl
theorem ready_mem {x : List (List Int)} {a : List Int} {t : Int} (h : t ∈ readyI x a) : (0 ≤ t ∧ t < (x.length : Int)) ∧ t ∉ a := by
  unfold readyI at h
  have h1 := (List.mem_filter.mp h).1
  have h2 := List.mem_filter.mp h1
  have := rngP_mem.mp h2.1
  exact ⟨by omega, by simpa using h2.2⟩
theorem rng_nd (n : Nat) : (rngP 0 n).Nodup := by
  refine List.pairwise_iff_getElem.mpr fun i j hi hj hij => ?_
  have e1 := rngP_get (lo := 0) (n := n) (i := i) (by simpa [rngP_length] using hi)
  have e2 := rngP_get (lo := 0) (n := n) (i := j) (by simpa [rngP_length] using hj)
  rw [List.getElem?_eq_getElem hi] at e1
  rw [List.getElem?_eq_getElem hj] at e2
  have e1 := Option.some.inj e1
  have e2 := Option.some.inj e2
  omega
theorem ready_few {x : List (List Int)} {a : List Int} (h : okI x a) : (readyI x a).length + a.length ≤ x.length := by
  have nd : (readyI x a ++ a).Nodup := by
    refine List.nodup_append.mpr ⟨?_, h.1, fun u hu v hv e => (ready_mem hu).2 (e ▸ hv)⟩
    unfold readyI
    exact List.Pairwise.filter _ (List.Pairwise.filter _ (rng_nd x.length))
  have := Ord.length_sub _ (rngP 0 x.length) nd fun t ht => rngP_mem.mpr (by
    rcases List.mem_append.1 ht with z | z
    · have := (ready_mem z).1; omega
    · have := h.2 t z; omega)
  rwa [List.length_append, rngP_length] at this
theorem rd_ok {x : List (List Int)} {a : List Int} (h : okI x a) : (∀ b ∈ rdI x a, okI x b ∧ b.length = a.length + 1) ∧ (rdI x a).length + a.length ≤ x.length := by
  refine ⟨fun b hb => ?_, by unfold rdI; rw [List.length_map]; exact ready_few h⟩
  unfold rdI at hb
  obtain ⟨t, ht, rfl⟩ := List.mem_map.mp hb
  obtain ⟨hr, hn⟩ := ready_mem ht
  have p := sortI_perm (a ++ [t])
  refine ⟨⟨?_, fun u hu => ?_⟩, ?_⟩
  · unfold joinI
    refine p.nodup_iff.mpr (List.nodup_append.mpr ⟨h.1, by simp, fun u hu v hv e => ?_⟩)
    rw [List.mem_singleton] at hv
    subst hv
    subst e
    exact hn hu
  · unfold joinI at hu
    rcases List.mem_append.1 (p.mem_iff.mp hu) with z | z
    · exact h.2 u z
    · rw [List.mem_singleton] at z
      subst z
      exact hr
  · unfold joinI
    rw [p.length_eq]
    simp
theorem okI_len {x : List (List Int)} {a : List Int} (h : okI x a) : a.length ≤ x.length := by
  have := ready_few h
  omega
theorem okI_nil {x : List (List Int)} : okI x [] := ⟨List.nodup_nil, fun t ht => by cases ht⟩
end LL
end
section
set_option Elab.async false
set_option linter.all false
set_option maxRecDepth 100000
set_option maxHeartbeats 999999
namespace L7
open PySem L3 L4 LL
section
variable (rd : List Int → List (List Int))
noncomputable def Wf : Nat → List Int → Int
  | 0, _ => 1
  | m + 1, a => ((rd a).map (Wf m)).sum
end
noncomputable def ordOf : D → Option (List (List Int))
  | .tup ds => tupsOf ds
  | _ => none
noncomputable def goodX (x : List (List Int)) : Bool := decide (x.length ≤ 9) && x.all fun r => decide (r.length ≤ 9)
noncomputable def waysR (rd : List (List Int) → List Int → List (List Int)) : FnF
  | [d] => match ordOf d with
    | some x => if goodX x = true then .ok (.int (Wf (rd x) x.length [])) else .no
    | none => .no
  | _ => .no
end L7
end
section
set_option linter.all false
namespace K24
noncomputable def fact : Nat → Int
  | 0 => 1
  | k + 1 => fact k * (k + 1)
noncomputable def ff (x : Int) : Nat → Int
  | 0 => 1
  | k + 1 => ff x k * (x - k)
--CUT
noncomputable def C (x : Int) (m : Nat) : Int := ff x m / fact m
noncomputable def diffs : List Int → List Int
  | a :: b :: l => (b - a) :: diffs (b :: l)
  | _ => []
theorem diffs_length : ∀ l : List Int, (diffs l).length = l.length - 1
  | [] => rfl
  | [_] => rfl
  | a :: b :: l => by rw [diffs, List.length_cons, diffs_length (b :: l)]; simp
noncomputable def fd (l : List Int) : List Int := match l with
  | [] => []
  | a :: r => a :: fd (diffs (a :: r))
termination_by l.length
decreasing_by rw [diffs_length]; simp
noncomputable def vals (f : Int → Int) : Nat → Int → List Int
  | 0, _ => []
  | n + 1, x => f x :: vals f n (x + 1)
noncomputable def DV (n : Nat) (d : Int) : List Int → Int → Int
  | [], _ => 0
  | w :: l, k => w * C (k + n - 1 - d) n + DV n (d + 1) l k
end K24
end
section
set_option Elab.async false
set_option linter.all false
set_option maxRecDepth 100000
namespace LL
open PySem L3 L4
noncomputable def f_added : FnF := runF 2 2
    (sRet (eComp 2 [] (iZipL (aCons (eVar 0) (aCons (eVar 1) aNil))) (g2 0 1) tTrue (eBin addM (eVar 0) (eVar 1))))
noncomputable def f_one_descent_more : FnF := runF 1 1
    (sRet (eBin addM (eLst (aCons (eC (.int 0)) aNil)) (eSl (eVar 0) oNo (oE (eNeg (eC (.int 1)))))))
noncomputable def f_find_shares : Nat → FnM
  | 0 => fun _ _ => .no
  | n + 1 => runM 8 4
    ((sSeq (sSet 4 (eTup (aCons (eVar 1) (aCons (eVar 2) aNil))))
    (sIf (tV (eBin (inXM true) (eVar 4) (eVar 3)))
      (sSeq (sOwn 5 (eBin repLM (eLst (aCons (eC (.int 0)) aNil)) (eCB max2M (aCons (eCB lenM (aCons (eVar 0) aNil)) (aCons (eC (.int 1)) aNil)))))
      (sSeq (sIf (tV (eBin eqM (eCB lenM (aCons (eVar 1) aNil)) (eCB lenM (aCons (eVar 0) aNil))))
        (sPut 5 (xPureR (eC (.int 1))) (eC (.int 0)))
        sEnd)
      (sSeq (sFrz 5 (sFor (iWalk (eCall LL.f_ready_things (aCons (eVar 0) (aCons (eVar 1) aNil)))) (gN1 6)
        (sSeq (sCallM 7 (f_find_shares n) (aCons (eVar 0) (aCons (eCall LL.f_joined (aCons (eVar 1) (aCons (eVar 6) aNil))) (aCons (eVar 6) aNil))) 3)
        (sSet 5 (eCall LL.f_added (aCons (eVar 5) (aCons (eIf (tV (eBin gtM (eVar 2) (eVar 6))) (eCall LL.f_one_descent_more (aCons (eVar 7) aNil)) (eVar 7)) aNil)))))))
      (sPutX 3 (xPureR (eVar 5)) (eVar 4)))))
      sEnd)))
    (eVar 4)
noncomputable def f_shares_on : FnF := runF 2 1
    (sSeq (sOwnX 1)
    (sSeq (sDoM (LL.f_find_shares 11) (aCons (eVar 0) (aCons (eTup aNil) (aCons (eC (.int 0)) aNil))) 1)
    (sRet (eVar 1))))
noncomputable def f_shares_by_descents : FnF := runF 1 1
    (sRet (eCB tupleM (aCons (eBin ixXM (eCall LL.f_shares_on (aCons (eVar 0) aNil)) (eTup (aCons (eTup aNil) (aCons (eC (.int 0)) aNil)))) aNil)))
noncomputable def f_chosen : FnF := runF 4 2
    (sSeq (sSet 2 (eC (.int 1)))
    (sSeq (sFor (iRange (aCons (eVar 1) aNil)) (gN1 3)
      (sSet 2 (eBin divM (eBin mulM (eVar 2) (eBin subM (eVar 0) (eVar 3))) (eBin addM (eVar 3) (eC (.int 1))))))
    (sRet (eVar 2))))
noncomputable def f_sum_over_descents : FnF := runF 3 3
    (sRet (eCB sumM (aCons (eComp 2 [1, 2] (iEnum (aCons (eVar 0) aNil)) (g2 0 1) tTrue (eBin mulM (eVar 1) (eCall LL.f_chosen (aCons (eBin subM (eBin subM (eBin addM (eVar 3) (eVar 2)) (eC (.int 1))) (eVar 0)) (aCons (eVar 2) aNil))))) aNil)))
noncomputable def f_count_at : FnF := runF 2 2
    (sRet (eCall LL.f_sum_over_descents (aCons (eCall LL.f_shares_by_descents (aCons (eVar 0) aNil)) (aCons (eCB lenM (aCons (eVar 0) aNil)) (aCons (eVar 1) aNil)))))
noncomputable def f_times_k_and : FnF := runF 2 2
    (sRet (eComp 2 [1] (iZipL (aCons (eBin addM (eVar 0) (eLst (aCons (eC (.int 0)) aNil))) (aCons (eBin addM (eLst (aCons (eC (.int 0)) aNil)) (eVar 0)) aNil))) (g2 0 1) tTrue (eBin addM (eBin mulM (eVar 2) (eVar 0)) (eVar 1))))
noncomputable def f_product_of_steps : FnF := runF 5 3
    (sSeq (sSet 3 (eLst (aCons (eVar 0) aNil)))
    (sSeq (sFor (iRange (aCons (eVar 2) aNil)) (gN1 4)
      (sSet 3 (eCall LL.f_times_k_and (aCons (eVar 3) (aCons (eBin subM (eVar 1) (eVar 4)) aNil)))))
    (sRet (eVar 3))))
noncomputable def f_polynomial : FnF := runF 5 1
    (sSeq (sSet 1 (eCB lenM (aCons (eVar 0) aNil)))
    (sSeq (sSet 2 (eBin repLM (eLst (aCons (eC (.int 0)) aNil)) (eBin addM (eVar 1) (eC (.int 1)))))
    (sSeq (sFor (iEnum (aCons (eCall LL.f_shares_by_descents (aCons (eVar 0) aNil)) aNil)) (gN2 3 4)
      (sSet 2 (eCall LL.f_added (aCons (eVar 2) (aCons (eCall LL.f_product_of_steps (aCons (eVar 4) (aCons (eBin subM (eBin subM (eVar 1) (eC (.int 1))) (eVar 3)) (aCons (eVar 1) aNil)))) aNil)))))
    (sRet (eCB tupleM (aCons (eVar 2) aNil))))))
noncomputable def f_first_differences : FnF := runF 3 1
    (sSeq (sOwn 1 (eLst aNil))
    (sSeq (sSet 2 (eVar 0))
    (sSeq (sWhile whileN (tV (eVar 2))
      (sSeq (sX (xM1 1 appM (xPureR (eBin ixM (eVar 2) (eC (.int 0))))))
      (sSet 2 (eComp 2 [] (iZipL (aCons (eVar 2) (aCons (eSl (eVar 2) (oE (eC (.int 1))) oNo) aNil))) (g2 0 1) tTrue (eBin subM (eVar 1) (eVar 0))))))
    (sRet (eCB tupleM (aCons (eVar 1) aNil))))))
noncomputable def f_shares_by_steps : FnF := runF 3 1
    (sSeq (sSet 1 (eCB lenM (aCons (eVar 0) aNil)))
    (sSeq (sSet 2 (eCall LL.f_shares_by_descents (aCons (eVar 0) aNil)))
    (sRet (eCall LL.f_first_differences (aCons (eComp 1 [2, 1] (iRange (aCons (eBin addM (eVar 1) (eC (.int 1))) aNil)) (g1 0) tTrue (eCall LL.f_sum_over_descents (aCons (eVar 1) (aCons (eVar 2) (aCons (eVar 0) aNil))))) aNil)))))
noncomputable def f_l_chosen : FnF := runF 5 2
    (sSeq (sSet 2 (eC (.int 1)))
    (sSeq (sSet 3 (eC (.int 1)))
    (sSeq (sFor (iRange (aCons (eVar 1) aNil)) (gN1 4)
      (sSeq (sSet 2 (eBin mulM (eVar 2) (eBin subM (eVar 0) (eVar 4))))
      (sSet 3 (eBin mulM (eVar 3) (eBin addM (eVar 4) (eC (.int 1)))))))
    (sRet (eBin divM (eVar 2) (eVar 3))))))
noncomputable def f_l_tuple : FnF := runF 2 2
    (sSeq (sIf (tOr (tNot (tV (eIsi "tuple" (eVar 0)))) (tV (eBin neM (eCB lenM (aCons (eVar 0) aNil)) (eVar 1))))
      (sRet (eC (.bl false)))
      sEnd)
    (sRet (eCB allM (aCons (eComp 1 [] (iWalk (eVar 0)) (g1 0) tTrue (eAnd (eIsi "int" (eVar 0)) (eNot (eIsi "bool" (eVar 0))))) aNil))))
noncomputable def f_l_any_k : FnF := runF 5 3
    (sSeq (sSet 3 (eCall LL.f_l_draws (aCons (eCall LL.f_l_cell (aCons (eVar 0) (aCons (eVar 1) aNil))) (aCons (eC (.int 3)) (aCons (eVar 2) aNil)))))
    (sSeq (sIf (tV (eBin eqM (eBin modM (eBin ixM (eVar 3) (eC (.int 0))) (eC (.int 3))) (eC (.int 0))))
      (sRet (eBin subM (eBin modM (eBin ixM (eVar 3) (eC (.int 1))) (eC (.int 25))) (eC (.int 12))))
      sEnd)
    (sSeq (sSet 4 (eCall LL.f_l_great (aCons (eCall LL.f_l_cell (aCons (eVar 0) (aCons (eBin addM (eVar 1) (eC (.int 1))) aNil))) (aCons (eBin ixM (eLst (aCons (eBin powM (eC (.int 10)) (eC (.int 4))) (aCons (eBin powM (eC (.int 10)) (eC (.int 20))) (aCons (eBin powM (eC (.int 10)) (eC (.int 59))) aNil)))) (eBin modM (eBin ixM (eVar 3) (eC (.int 1))) (eC (.int 3)))) (aCons (eBin addM (eVar 2) (eC (.int 70001))) aNil)))))
    (sRet (eBin mulM (eVar 4) (eBin subM (eC (.int 1)) (eBin mulM (eC (.int 2)) (eBin modM (eBin ixM (eVar 3) (eC (.int 2))) (eC (.int 2))))))))))
end LL
end
section
set_option Elab.async false
set_option linter.all false
set_option maxRecDepth 100000
namespace LL
open PySem L3 L4
noncomputable def f_l_goings : FnF := runF 6 1
    (sSeq (sSet 1 (eLst (aCons (eTup aNil) aNil)))
    (sSeq (sFor (iRange (aCons (eCB lenM (aCons (eVar 0) aNil)) aNil)) (gN1 2)
      (sSeq (sOwn 3 (eLst aNil))
      (sSeq (sFor (iWalk (eVar 1)) (gN1 4)
        (sFor (iRange (aCons (eCB lenM (aCons (eVar 0) aNil)) aNil)) (gN1 5)
          (sIf (tAnd (tV (eBin (inM true) (eVar 5) (eVar 4))) (tV (eCB allM (aCons (eComp 1 [4] (iWalk (eBin ixM (eVar 0) (eVar 5))) (g1 0) tTrue (eBin (inM false) (eVar 0) (eVar 1))) aNil))))
            (sX (xM1 3 appM (xPureR (eBin addM (eVar 4) (eTup (aCons (eVar 5) aNil))))))
            sEnd)))
      (sFrz 3 (sSet 1 (eVar 3))))))
    (sRet (eVar 1))))
end LL
end
section
set_option Elab.async false
set_option linter.all false
set_option maxRecDepth 100000
set_option maxHeartbeats 999999
namespace LL
open PySem L3 L4
noncomputable def addL (a b : List Int) : List Int := (a.zip b).map fun p => p.1 + p.2
noncomputable def shl1 (l : List Int) : List Int := 0 :: l.dropLast
noncomputable def one0 (n : Nat) : List Int := 1 :: List.replicate (max n 1 - 1) 0
noncomputable def zer (n : Nat) : List Int := List.replicate (max n 1) 0
section
variable (x : List (List Int))
noncomputable def Sh : Nat → List Int → Int → List Int
  | 0, _, _ => one0 x.length
  | m + 1, a, l => (readyI x a).foldl (fun acc t => addL acc (if t < l then shl1 (Sh m (joinI a t) t) else Sh m (joinI a t) t)) (zer x.length)
end
theorem addL_length {a b : List Int} (h : a.length = b.length) : (addL a b).length = a.length := by unfold addL; simp [h]
theorem shl1_length {a : List Int} (h : 1 ≤ a.length) : (shl1 a).length = a.length := by unfold shl1; simp; omega
theorem zer_length (n : Nat) : (zer n).length = max n 1 := by simp [zer]
theorem one0_length (n : Nat) : (one0 n).length = max n 1 := by simp [one0]; omega
theorem Sh_length (x : List (List Int)) : ∀ (m : Nat) (a : List Int) (l : Int), (Sh x m a l).length = max x.length 1
  | 0, a, l => one0_length _
  | m + 1, a, l => by
    unfold Sh
    have go : ∀ (ts : List Int) (acc : List Int), acc.length = max x.length 1 → (ts.foldl (fun acc t => addL acc (if t < l then shl1 (Sh x m (joinI a t) t) else Sh x m (joinI a t) t)) acc).length = max x.length 1 := by
      intro ts
      induction ts with
      | nil => intro acc h; exact h
      | cons t ts ih =>
        intro acc h
        rw [List.foldl_cons]
        refine ih _ ?_
        rw [addL_length]
        · exact h
        · rw [h]
          have := Sh_length x m (joinI a t) t
          split
          · rw [shl1_length (by omega)]; exact this.symm
          · exact this.symm
    exact go _ _ (zer_length _)
noncomputable def most : Nat → Nat
  | 0 => 1
  | m + 1 => 1 + (m + 1) * most m
noncomputable def stepS (x : List (List Int)) (m : Nat) (a : List Int) (l : Int) (acc : List Int) (t : Int) : List Int := addL acc (if t < l then shl1 (Sh x m (joinI a t) t) else Sh x m (joinI a t) t)
noncomputable def shares (x : List (List Int)) : List Int := Sh x x.length [] 0
end LL
end
section
set_option Elab.async false
set_option linter.all false
set_option maxRecDepth 100000
set_option maxHeartbeats 999999
namespace LL
open PySem L3 L4 K24
theorem appE {i : Nat} {f : EF} {ρ : SEnv} {ds : List D} {d : D} (h1 : f (vRd ρ) = some d) (h2 : ρ[i]? = some (.ow (.lst ds))) (hl : ds.length < 16777216) : sX (xM1 i appM (xPureR f)) ρ = .nx (ρ.set i (.ow (.lst (ds ++ [d])))) := by
  have e : xM1 i appM (xPureR f) ρ = some (ρ.set i (.ow (.lst (ds ++ [d]))), .non) := by
    unfold xM1 xPureR
    rw [h2, h1]
    show ((ownL ρ[i]?).bind fun ds => (appM ds d).map _) = _
    rw [h2]
    show ((appM ds d).map _) = _
    rw [appM_ok hl]
    rfl
  unfold sX
  rw [e]
noncomputable def ev (k : Int) : List Int → Int
  | [] => 0
  | a :: l => a + k * ev k l
noncomputable def timesL (s : Int) (l : List Int) : List Int := ((l ++ [0]).zip (0 :: l)).map fun p : Int × Int => s * p.1 + p.2
noncomputable def prodL (s t : Int) : Nat → List Int
  | 0 => [s]
  | n + 1 => timesL (t - n) (prodL s t n)
noncomputable def polyL (n : Nat) : List Int → Nat → List Int → List Int
  | [], _, acc => acc
  | s :: w, d, acc => polyL n w (d + 1) (addL acc (prodL s ((n : Int) - 1 - d) n))
end LL
end
section
set_option Elab.async false
set_option linter.all false
set_option maxRecDepth 100000
set_option maxHeartbeats 999999
namespace LL
open PySem L3 L4 K24
noncomputable def stepsX (x : List (List Int)) : List Int := fd (vals (DV x.length 0 (shares x)) (x.length + 1) 0)
end LL
end
section
set_option Elab.async false
set_option linter.all false
set_option maxRecDepth 100000
set_option maxHeartbeats 999999
namespace LL
open PySem L3 L4 K24
section
variable (x : List (List Int))
end
noncomputable def Zr (w : List Int) (m : Nat) : Prop := ∀ (d : Nat) (y : Int), w[d]? = some y → m < d → y = 0
theorem Zr.mono {w : List Int} {m k : Nat} (h : Zr w m) (hk : m ≤ k) : Zr w k := fun d y e hd => h d y e (by omega)
theorem Zr.add {a b : List Int} {m : Nat} (ha : Zr a m) (hb : Zr b m) : Zr (addL a b) m := fun d y e hd => by
  unfold addL at e
  rw [List.getElem?_map] at e
  obtain ⟨p, ep, rfl⟩ := Option.map_eq_some_iff.1 e
  obtain ⟨e1, e2⟩ := List.getElem?_zip_eq_some.1 ep
  rw [ha d _ e1 hd, hb d _ e2 hd]
  rfl
theorem Zr.shl {w : List Int} {m : Nat} (h : Zr w m) : Zr (shl1 w) (m + 1) := fun d y e hd => by
  cases d with
  | zero => omega
  | succ d =>
    have e : w.dropLast[d]? = some y := e
    rw [List.getElem?_dropLast] at e
    split at e
    · exact h d y e (by omega)
    · cases e
theorem Zr.zer (n m : Nat) : Zr (zer n) m := fun d y e _ => by
  unfold LL.zer at e
  rw [List.getElem?_replicate] at e
  split at e
  · cases e; rfl
  · cases e
theorem Zr.fold {x : List (List Int)} {m k : Nat} {a : List Int} {l : Int} (h : ∀ t, Zr (if t < l then shl1 (Sh x m (joinI a t) t) else Sh x m (joinI a t) t) k) : ∀ (ts acc : List Int), Zr acc k → Zr (ts.foldl (stepS x m a l) acc) k
  | [], acc, hz => hz
  | t :: ts, acc, hz => Zr.fold h ts _ (hz.add (h t))
theorem Sh_succ (x : List (List Int)) (m : Nat) (a : List Int) (l : Int) : Sh x (m + 1) a l = (readyI x a).foldl (stepS x m a l) (zer x.length) := rfl
theorem Sh_Zr (x : List (List Int)) : ∀ (m : Nat) (a : List Int) (l : Int), Zr (Sh x m a l) m
  | 0, a, l => fun d y e hd => by
    cases d with
    | zero => omega
    | succ d =>
      have e : (List.replicate (max x.length 1 - 1) (0 : Int))[d]? = some y := e
      rw [List.getElem?_replicate] at e
      split at e
      · cases e; rfl
      · cases e
  | m + 1, a, l => by
    rw [Sh_succ]
    refine Zr.fold (fun t => ?_) _ _ (Zr.zer _ _)
    split
    · exact (Sh_Zr x m _ _).shl
    · exact (Sh_Zr x m _ _).mono (by omega)
theorem ready_nn {x : List (List Int)} {a : List Int} {t : Int} (h : t ∈ readyI x a) : 0 ≤ t := (ready_mem h).1.1
theorem fold_congr {α β : Type} {f g : β → α → β} : ∀ (l : List α) (b : β), (∀ b, ∀ t ∈ l, f b t = g b t) → l.foldl f b = l.foldl g b
  | [], b, _ => rfl
  | t :: l, b, h => by rw [List.foldl_cons, List.foldl_cons, h b t List.mem_cons_self]; exact fold_congr l _ fun b u hu => h b u (List.mem_cons_of_mem _ hu)
theorem Sh_low (x : List (List Int)) (m : Nat) (a : List Int) {l l' : Int} (h : l ≤ 0) (h' : l' ≤ 0) : Sh x m a l = Sh x m a l' := by
  cases m with
  | zero => rfl
  | succ m =>
    rw [Sh_succ, Sh_succ]
    refine fold_congr _ _ fun acc t ht => ?_
    have := ready_nn ht
    unfold stepS
    rw [if_neg (by omega), if_neg (by omega)]
theorem join_mem {a : List Int} {t u : Int} : u ∈ joinI a t ↔ u ∈ a ∨ u = t := by
  unfold joinI
  rw [(sortI_perm (a ++ [t])).mem_iff]
  simp
theorem join_len (a : List Int) (t : Int) : (joinI a t).length = a.length + 1 := by
  unfold joinI
  rw [(sortI_perm (a ++ [t])).length_eq]
  simp
end LL
end
section
set_option Elab.async false
set_option linter.all false
set_option maxRecDepth 100000
set_option maxHeartbeats 999999
namespace LL
open PySem L3 L4 K24
section
variable (x : List (List Int))
end
section
variable {x : List (List Int)}
theorem ready_congr {a b : List Int} (h : ∀ t, t ∈ a ↔ t ∈ b) : readyI x a = readyI x b := by
  have hc : ∀ t, a.contains t = b.contains t := fun t => by
    rw [Bool.eq_iff_iff]
    simp [h t]
  unfold readyI
  simp only [hc]
end
end LL
end
section
set_option Elab.async false
set_option linter.all false
set_option maxRecDepth 100000
set_option maxHeartbeats 999999
namespace LL
open PySem L3 L4 K24
noncomputable abbrev Tab := List (Nat × Int)
structure Okt (n : Nat) (A : Tab) : Prop where
  nd : (A.map (·.1)).Nodup
  lt : ∀ q ∈ A, q.1 < 2 ^ n
section
variable (x : List (List Int))
end
section
variable {x : List (List Int)}
end
end LL
end
section
set_option Elab.async false
set_option linter.all false
set_option maxRecDepth 100000
set_option maxHeartbeats 999999
namespace LL
open PySem L3 L4 K24
section
variable {x : List (List Int)}
end
end LL
end
section
set_option Elab.async false
set_option linter.all false
set_option maxRecDepth 100000
namespace K25
open PySem L3 L4
noncomputable def f_l_by_descents : FnF := runF 3 2
    (sSeq (sSet 2 (eCB lenM (aCons (eVar 0) aNil)))
    (sRet (eCB sumM (aCons (eComp 1 [0, 2, 1] (iRange (aCons (eVar 2) aNil)) (g1 0) tTrue (eBin mulM (eBin ixM (eVar 1) (eVar 0)) (eCall LL.f_l_chosen (aCons (eBin subM (eBin subM (eBin addM (eVar 3) (eVar 2)) (eC (.int 1))) (eVar 0)) (aCons (eVar 2) aNil))))) aNil))))
noncomputable def f_l_by_steps : FnF := runF 2 2
    (sRet (eCB sumM (aCons (eComp 1 [0, 1] (iRange (aCons (eCB lenM (aCons (eVar 0) aNil)) aNil)) (g1 0) tTrue (eBin mulM (eBin ixM (eVar 1) (eVar 0)) (eCall LL.f_l_chosen (aCons (eVar 2) (aCons (eVar 0) aNil))))) aNil)))
noncomputable def f_l_value : FnF := runF 4 2
    (sSeq (sSet 2 (eC (.int 0)))
    (sSeq (sFor (iRev (aCons (eVar 0) aNil)) (gN1 3)
      (sSet 2 (eBin addM (eBin mulM (eVar 2) (eVar 1)) (eVar 3))))
    (sRet (eVar 2))))
noncomputable def f_l_factorial : FnF := runF 3 1
    (sSeq (sSet 1 (eC (.int 1)))
    (sSeq (sFor (iRange (aCons (eVar 0) aNil)) (gN1 2)
      (sSet 1 (eBin mulM (eVar 1) (eBin addM (eVar 2) (eC (.int 1))))))
    (sRet (eVar 1))))
noncomputable def f_l_one_value : FnF := runF 7 5
    (sSeq (sSet 5 (eCall LL.f_count_at (aCons (eVar 0) (aCons (eVar 4) aNil))))
    (sSeq (sIf (tOr (tNot (tV (eIsi "int" (eVar 5)))) (tV (eIsi "bool" (eVar 5))))
      (sRet (eC (.bl false)))
      sEnd)
    (sSeq (sSet 6 (eC (.int 1)))
    (sSeq (sIf (tV (eBin gtM (eCB lenM (aCons (eVar 0) aNil)) (eC (.int 0))))
      (sSet 6 (eCall f_l_by_descents (aCons (eVar 1) (aCons (eVar 4) aNil))))
      sEnd)
    (sSeq (sIf (tOr (tV (eBin neM (eVar 5) (eVar 6))) (tV (eBin neM (eCall f_l_by_steps (aCons (eVar 2) (aCons (eVar 4) aNil))) (eVar 5))))
      (sRet (eC (.bl false)))
      sEnd)
    (sRet (eBin eqM (eCall f_l_value (aCons (eVar 3) (aCons (eVar 4) aNil))) (eBin mulM (eVar 5) (eCall f_l_factorial (aCons (eCB lenM (aCons (eVar 0) aNil)) aNil))))))))))
noncomputable def f_law : FnF := runF 10 1
    (sSeq (sSet 1 (eCall LL.f_l_drawn (aCons (eVar 0) (aCons (eC (.int 0)) (aCons (eC (.int 9)) (aCons (eC (.int 100003)) aNil))))))
    (sSeq (sSet 2 (eCB lenM (aCons (eVar 1) aNil)))
    (sSeq (sSet 3 (eCall LL.f_shares_by_descents (aCons (eVar 1) aNil)))
    (sSeq (sSet 4 (eCall LL.f_shares_by_steps (aCons (eVar 1) aNil)))
    (sSeq (sSet 5 (eCall LL.f_polynomial (aCons (eVar 1) aNil)))
    (sSeq (sIf (tOr (tNot (tV (eCall LL.f_l_tuple (aCons (eVar 3) (aCons (eCB max2M (aCons (eC (.int 1)) (aCons (eVar 2) aNil))) aNil))))) (tOr (tNot (tV (eCall LL.f_l_tuple (aCons (eVar 4) (aCons (eBin addM (eVar 2) (eC (.int 1))) aNil))))) (tNot (tV (eCall LL.f_l_tuple (aCons (eVar 5) (aCons (eBin addM (eVar 2) (eC (.int 1))) aNil)))))))
      (sRet (eC (.bl false)))
      sEnd)
    (sSeq (sIf (tOr (tV (eBin ltM (eCB min1M (aCons (eVar 3) aNil)) (eC (.int 0)))) (tOr (tV (eBin ltM (eCB min1M (aCons (eVar 4) aNil)) (eC (.int 0)))) (tOr (tV (eBin neM (eCB sumTM (aCons (eVar 3) aNil)) (eBin ixM (eVar 4) (eNeg (eC (.int 1)))))) (tV (eBin neM (eBin ixM (eVar 5) (eNeg (eC (.int 1)))) (eBin ixM (eVar 4) (eNeg (eC (.int 1)))))))))
      (sRet (eC (.bl false)))
      sEnd)
    (sSeq (sSet 6 (eBin modM (eBin ixM (eCall LL.f_l_draws (aCons (eCall LL.f_l_cell (aCons (eVar 0) (aCons (eC (.int 2)) aNil))) (aCons (eC (.int 1)) (aCons (eC (.int 200017)) aNil)))) (eC (.int 0))) (eC (.int 5))))
    (sSeq (sFor (iWalk (eTup (aCons (eVar 6) (aCons (eCall LL.f_l_any_k (aCons (eVar 0) (aCons (eC (.int 3)) (aCons (eC (.int 300007)) aNil)))) aNil)))) (gN1 7)
      (sIf (tNot (tV (eCall f_l_one_value (aCons (eVar 1) (aCons (eVar 3) (aCons (eVar 4) (aCons (eVar 5) (aCons (eVar 7) aNil))))))))
        (sRet (eC (.bl false)))
        sEnd))
    (sSeq (sIf (tV (eBin eqM (eVar 2) (eC (.int 0))))
      (sRet (eBin eqTM (eVar 4) (eTup (aCons (eC (.int 1)) aNil))))
      sEnd)
    (sSeq (sOwn 8 (eLst (aCons (eC (.int 0)) aNil)))
    (sSeq (sFor (iRange (aCons (eC (.int 1)) (aCons (eBin addM (eVar 2) (eC (.int 1))) aNil))) (gN1 9)
      (sX (xM1 8 appM (xPureR (eCB sumM (aCons (eComp 1 [3, 2, 9] (iRange (aCons (eVar 9) aNil)) (g1 0) tTrue (eBin mulM (eBin ixM (eVar 1) (eVar 0)) (eCall LL.f_l_chosen (aCons (eBin subM (eBin subM (eVar 2) (eC (.int 1))) (eVar 0)) (aCons (eBin subM (eBin subM (eVar 3) (eC (.int 1))) (eVar 0)) aNil))))) aNil))))))
    (sRet (eBin eqLM (eCB listM (aCons (eVar 4) aNil)) (eVar 8)))))))))))))))
end K25
end
section
set_option Elab.async false
set_option linter.all false
set_option maxRecDepth 100000
set_option maxHeartbeats 999999
namespace K25
open PySem L3 L4 K24 LL
section
variable {x : List (List Int)}
noncomputable def polyX (x : List (List Int)) : List Int := polyL x.length (shares x) 0 (List.replicate (x.length + 1) 0)
end
noncomputable abbrev st (ns : List Int) (x : List (List Int)) (nr : Int) (v7 v8 v9 : Sv) : SEnv := [.ro (.scr ns), .ro (ordD x), .ro (.int x.length), .ro (tupI (shares x)), .ro (tupI (stepsX x)), .ro (tupI (polyX x)), .ro (.int nr), v7, v8, v9]
end K25
end
section
set_option Elab.async false
set_option linter.all false
set_option maxRecDepth 100000
set_option maxHeartbeats 999999
namespace LL
open PySem L3 L4 K24
section
variable (x : List (List Int))
noncomputable def cnt : Nat → List Int → Int
  | 0, _ => 1
  | m + 1, a => ((readyI x a).map fun t => cnt m (joinI a t)).sum
noncomputable def gls : Nat → List (List Int)
  | 0 => [[]]
  | i + 1 => (gls i).flatMap fun w => (readyI x w).map fun t => w ++ [t]
end
section
variable {x : List (List Int)}
theorem sum_addL : ∀ {a b : List Int}, a.length = b.length → (addL a b).sum = a.sum + b.sum
  | [], [], _ => rfl
  | [], _ :: _, h => by simp at h
  | _ :: _, [], h => by simp at h
  | y :: a, z :: b, h => by
    have ih := sum_addL (a := a) (b := b) (by simpa using h)
    show y + z + (addL a b).sum = _
    rw [ih, List.sum_cons, List.sum_cons]
    omega
theorem sum_shl {w : List Int} (h : w.getLast? = some 0) : (shl1 w).sum = w.sum := by
  obtain ⟨l, hl⟩ := List.getLast?_eq_some_iff.1 h
  subst hl
  unfold shl1
  simp
theorem cnt_Sh : ∀ (m : Nat) (a : List Int) (l : Int), a.length + m = x.length → (l = -1 ∨ l ∈ a) → (Sh x m a l).sum = cnt x m a
  | 0, a, l, _, _ => by
    show (one0 x.length).sum = 1
    unfold one0
    rw [List.sum_cons]
    have : (List.replicate (max x.length 1 - 1) (0 : Int)).sum = 0 := by simp
    rw [this]
    rfl
  | m + 1, a, l, hl, hm => by
    rw [Sh_succ]
    have go : ∀ (ts acc : List Int), (∀ t ∈ ts, t ∈ readyI x a) → acc.length = max x.length 1 → (ts.foldl (stepS x m a l) acc).sum = acc.sum + (ts.map fun t => cnt x m (joinI a t)).sum := by
      intro ts
      induction ts with
      | nil => intro acc _ _; simp
      | cons t ts ih =>
        intro acc ht h
        have hS := Sh_length x m (joinI a t) t
        have tr := ht t List.mem_cons_self
        have t0 := ready_nn tr
        have tn := (ready_mem tr).2
        have hlen : acc.length = (if t < l then shl1 (Sh x m (joinI a t) t) else Sh x m (joinI a t) t).length := by
          rw [h]
          split
          · rw [shl1_length (by omega)]; exact hS.symm
          · exact hS.symm
        have es : (if t < l then shl1 (Sh x m (joinI a t) t) else Sh x m (joinI a t) t).sum = cnt x m (joinI a t) := by
          rw [← cnt_Sh m (joinI a t) t (by rw [join_len]; omega) (.inr (join_mem.2 (.inr rfl)))]
          split
          · rename_i h1
            refine sum_shl ?_
            have la : l ∈ a := hm.resolve_left (by omega)
            have a1 : 1 ≤ a.length := by cases a with
              | nil => cases la
              | cons _ _ => simp
            have hz := Sh_Zr x m (joinI a t) t
            rw [List.getLast?_eq_getElem?, hS]
            have hlt : max x.length 1 - 1 < (Sh x m (joinI a t) t).length := by omega
            rw [List.getElem?_eq_getElem hlt]
            congr 1
            exact hz _ _ (List.getElem?_eq_getElem hlt) (by omega)
          · rfl
        rw [List.foldl_cons, ih _ (fun u hu => ht u (List.mem_cons_of_mem _ hu)) (by unfold stepS; rw [addL_length hlen, h]), List.map_cons, List.sum_cons]
        unfold stepS
        rw [sum_addL hlen, es]
        omega
    have := go (readyI x a) (zer x.length) (fun t h => h) (zer_length _)
    rw [this]
    have e0 : (zer x.length).sum = 0 := by unfold zer; simp
    rw [e0, Int.zero_add]
    rfl
theorem cnt_congr : ∀ (m : Nat) {a b : List Int}, (∀ t, t ∈ a ↔ t ∈ b) → cnt x m a = cnt x m b
  | 0, a, b, _ => rfl
  | m + 1, a, b, h => by
    show ((readyI x a).map fun t => cnt x m (joinI a t)).sum = ((readyI x b).map fun t => cnt x m (joinI b t)).sum
    rw [ready_congr h]
    congr 1
    refine List.map_congr_left fun t _ => cnt_congr m fun u => ?_
    rw [join_mem, join_mem, h u]
theorem gls_cnt : ∀ (i r : Nat), ((gls x i).map (cnt x r)).sum = cnt x (i + r) []
  | 0, r => by simp [gls]
  | i + 1, r => by
    have ih := gls_cnt i (r + 1)
    rw [show i + 1 + r = i + (r + 1) by omega, ← ih]
    have go : ∀ L : List (List Int), ((L.flatMap fun w => (readyI x w).map fun t => w ++ [t]).map (cnt x r)).sum = (L.map (cnt x (r + 1))).sum := by
      intro L
      induction L with
      | nil => rfl
      | cons w L ihL =>
        rw [List.flatMap_cons, List.map_append, List.sum_append, ihL, List.map_cons, List.sum_cons, List.map_map]
        congr 1
        show _ = ((readyI x w).map fun t => cnt x r (joinI w t)).sum
        congr 1
        refine List.map_congr_left fun t _ => cnt_congr r fun u => ?_
        rw [join_mem]
        simp
    exact go _
theorem gls_len : ((gls x x.length).length : Int) = (shares x).sum := by
  have h := gls_cnt (x := x) x.length 0
  have e : ((gls x x.length).map (cnt x 0)).sum = ((gls x x.length).length : Int) := by
    have : ∀ L : List (List Int), (L.map (cnt x 0)).sum = (L.length : Int) := by
      intro L
      induction L with
      | nil => rfl
      | cons w L ih =>
        rw [List.map_cons, List.sum_cons, ih, List.length_cons]
        show (1 : Int) + _ = _
        omega
    exact this _
  rw [← e, h, Nat.add_zero, ← cnt_Sh x.length [] (-1) (by simp) (.inl rfl)]
  unfold shares
  rw [Sh_low x x.length [] (l := -1) (l' := 0) (by decide) (by decide)]
end
end LL
end
section
set_option Elab.async false
set_option linter.all false
set_option maxRecDepth 100000
set_option maxHeartbeats 999999
namespace LL
open PySem L3 L4 K24
section
variable {x : List (List Int)}
noncomputable def rdU (x : List (List Int)) (w : List Int) (b : Nat) : List Int := ((rngP 0 b).filter fun t => !w.contains t).filter fun t => (row x t).all fun l => w.contains l
theorem ff1 {α : Type} (p q : α → Bool) (b : α) : ([b].filter q).filter p = if (q b && p b) = true then [b] else [] := by cases hq : q b <;> cases hp : p b <;> simp [List.filter, hq, hp]
theorem rdU_succ (w : List Int) (b : Nat) : rdU x w (b + 1) = rdU x w b ++ (if (!w.contains (b : Int) && (row x b).all fun l => w.contains l) = true then [(b : Int)] else []) := by
  unfold rdU
  rw [rngP_succ, List.filter_append, List.filter_append, Int.zero_add]
  congr 1
  exact ff1 _ _ _
theorem rdU_len (w : List Int) (b : Nat) : (rdU x w b).length ≤ b := by
  unfold rdU
  refine Nat.le_trans (List.length_filter_le _ _) (Nat.le_trans (List.length_filter_le _ _) ?_)
  rw [rngP_length]
  exact Nat.le_refl _
noncomputable def extU (x : List (List Int)) (w : List Int) (b : Nat) : List (List Int) := (rdU x w b).map fun t => w ++ [t]
theorem gls_succ (i : Nat) : gls x (i + 1) = (gls x i).flatMap fun w => extU x w x.length := rfl
theorem gls_in : ∀ (i : Nat) (w : List Int), w ∈ gls x i → w.length = i
  | 0, w, h => by
    have : w = [] := by simpa [gls] using h
    subst this
    rfl
  | i + 1, w, h => by
    rw [gls_succ] at h
    obtain ⟨u, hu, hw⟩ := List.mem_flatMap.1 h
    obtain ⟨t, _, rfl⟩ := List.mem_map.1 hw
    rw [List.length_append, gls_in i u hu]
    rfl
end
end LL
end
section
set_option Elab.async false
set_option linter.all false
set_option maxRecDepth 100000
set_option maxHeartbeats 999999
namespace LL
open PySem L3 L4 K24
section
variable (x : List (List Int))
end
section
variable {x : List (List Int)}
theorem at0_nat (l : List Int) (j : Nat) : at0 l (j : Int) = l[j]?.getD 0 := by unfold at0; rw [Int.toNat_natCast]
end
end LL
end
section
set_option Elab.async false
set_option linter.all false
set_option maxRecDepth 100000
set_option maxHeartbeats 999999
namespace LL
open PySem L3 L4 K24
section
variable {x : List (List Int)}
theorem gls_ready : ∀ {i : Nat} {w : List Int}, w ∈ gls x i → w.length = i ∧ ∀ u t v, w = u ++ t :: v → t ∈ readyI x u
  | 0, w, h => by
    have : w = [] := by simpa [gls] using h
    subst this
    exact ⟨rfl, fun u t v e => by simp at e⟩
  | i + 1, w, h => by
    obtain ⟨w', hw', hm⟩ := List.mem_flatMap.1 (show w ∈ (gls x i).flatMap fun w => (readyI x w).map fun t => w ++ [t] from h)
    obtain ⟨t, ht, rfl⟩ := List.mem_map.1 hm
    have ih := gls_ready hw'
    refine ⟨by rw [List.length_append, ih.1]; rfl, fun u s v e => ?_⟩
    rcases List.eq_nil_or_concat v with rfl | ⟨v', b, rfl⟩
    · have h1 := List.append_inj' e rfl
      have : t = s := by simpa using h1.2
      rw [← this, ← h1.1]
      exact ht
    · have e2 : w' ++ [t] = (u ++ s :: v') ++ [b] := by rw [e]; simp
      have h1 := List.append_inj' e2 rfl
      exact ih.2 u s v' h1.1
end
end LL
end
section
set_option Elab.async false
set_option linter.all false
set_option maxRecDepth 100000
set_option maxHeartbeats 999999
namespace LL
open PySem L3 L4 K24
section
variable {x y : List (List Int)}
theorem going_nd {w : List Int} (h : ∀ u t v, w = u ++ t :: v → t ∈ readyI x u) : w.Nodup ∧ ∀ t ∈ w, 0 ≤ t ∧ t < (x.length : Int) := by
  have key : ∀ (r u : List Int), (∀ p t v, u ++ r = p ++ t :: v → t ∈ readyI x p) → u.Nodup → (u ++ r).Nodup := by
    intro r
    induction r with
    | nil => intro u _ hu; rw [List.append_nil]; exact hu
    | cons t r ih =>
      intro u hp hu
      have ht := (ready_mem (hp u t r rfl)).2
      have e : u ++ t :: r = (u ++ [t]) ++ r := by simp
      rw [e]
      refine ih (u ++ [t]) (fun p s v e2 => hp p s v (by rw [e, e2])) ?_
      rw [List.nodup_append]
      exact ⟨hu, by simp, fun a ha b hb e => ht (by rw [List.mem_singleton] at hb; rw [← hb, ← e]; exact ha)⟩
  refine ⟨key w [] h List.nodup_nil, fun t ht => ?_⟩
  obtain ⟨u, v, rfl⟩ := List.append_of_mem ht
  exact (ready_mem (h u t v rfl)).1
noncomputable def Turned (x y : List (List Int)) : Prop := y.length = x.length ∧ ∀ a b : Int, 0 ≤ b → b < (x.length : Int) → (a ∈ row y ((x.length : Int) - 1 - b) ↔ (x.length : Int) - 1 - a ∈ row x b)
theorem Turned.symm (h : Turned x y) : Turned y x := by
  refine ⟨h.1.symm, fun a b h0 h1 => ?_⟩
  rw [h.1] at h1 ⊢
  have e := h.2 ((x.length : Int) - 1 - a) ((x.length : Int) - 1 - b) (by omega) (by omega)
  rw [show (x.length : Int) - 1 - ((x.length : Int) - 1 - b) = b by omega, show (x.length : Int) - 1 - ((x.length : Int) - 1 - a) = a by omega] at e
  exact e.symm
noncomputable def Upside (x z : List (List Int)) : Prop := z.length = x.length ∧ ∀ a b : Int, 0 ≤ a → a < (x.length : Int) → 0 ≤ b → b < (x.length : Int) → (a ∈ row x b ↔ b ∈ row z a)
theorem Upside.symm (h : Upside x y) : Upside y x := ⟨h.1.symm, fun a b h0 h1 h2 h3 => by rw [h.1] at h1 h3; exact (h.2 b a h2 h3 h0 h1).symm⟩
end
end LL
end
section
set_option Elab.async false
set_option linter.all false
set_option maxRecDepth 100000
set_option maxHeartbeats 999999
namespace LL
open PySem L3 L4 K24
section
variable {x : List (List Int)}
end
end LL
end
section
set_option Elab.async false
set_option linter.all false
set_option maxRecDepth 100000
set_option maxHeartbeats 999999
namespace LL
open PySem L3 L4 K24
section
variable {x y z : List (List Int)}
structure Sd (x y z : List (List Int)) : Prop where
  len : z.length = x.length + y.length
  lo : ∀ t : Int, 0 ≤ t → t < (x.length : Int) → ∀ a, a ∈ row z t ↔ a ∈ row x t
  hi : ∀ t : Int, 0 ≤ t → t < (y.length : Int) → ∀ a, a ∈ row z (t + x.length) ↔ a - x.length ∈ row y t
  rx : ∀ t : Int, 0 ≤ t → t < (x.length : Int) → ∀ a ∈ row x t, 0 ≤ a ∧ a < (x.length : Int)
  ry : ∀ t : Int, 0 ≤ t → t < (y.length : Int) → ∀ a ∈ row y t, 0 ≤ a ∧ a < (y.length : Int)
structure Cb (x y : List (List Int)) (a b c : List Int) : Prop where
  lo : ∀ t : Int, 0 ≤ t → t < (x.length : Int) → (t ∈ c ↔ t ∈ a)
  hi : ∀ t : Int, 0 ≤ t → t < (y.length : Int) → (t + x.length ∈ c ↔ t ∈ b)
end
end LL
end
section
set_option Elab.async false
set_option linter.all false
set_option maxRecDepth 100000
set_option maxHeartbeats 999999
namespace LL
open PySem L3 L4 K24
section
variable {x y z : List (List Int)}
structure Av (x y z : List (List Int)) (s t : Int) : Prop where
  len : z.length = x.length + y.length
  lo : ∀ a : Int, 0 ≤ a → a < (x.length : Int) → ∀ b, b ∈ row z (a + s) ↔ b - s ∈ row x a
  hi : ∀ a : Int, 0 ≤ a → a < (y.length : Int) → ∀ b, b ∈ row z (a + t) ↔ (s ≤ b ∧ b < s + x.length) ∨ b - t ∈ row y a
  rx : ∀ a : Int, 0 ≤ a → a < (x.length : Int) → ∀ b ∈ row x a, 0 ≤ b ∧ b < (x.length : Int)
  ry : ∀ a : Int, 0 ≤ a → a < (y.length : Int) → ∀ b ∈ row y a, 0 ≤ b ∧ b < (y.length : Int)
  st : (s = 0 ∧ t = x.length) ∨ (s = y.length ∧ t = 0)
end
end LL
end
section
set_option Elab.async false
set_option linter.all false
set_option maxRecDepth 100000
set_option maxHeartbeats 999999
namespace LL
open PySem L3 L4 K24
theorem ownE {i : Nat} {f : EF} {ρ : SEnv} {d : D} (h : f (vRd ρ) = some d) : sOwn i f ρ = .nx (ρ.set i (.ow d)) := by
  unfold sOwn
  rw [h]
end LL
end
section
set_option Elab.async false
set_option linter.all false
set_option maxRecDepth 100000
namespace LL
open PySem L3 L4
end LL
end
section
set_option Elab.async false
set_option linter.all false
set_option maxRecDepth 100000
set_option maxHeartbeats 999999
namespace LL
open PySem L3 L4 K24
section
variable {x : List (List Int)}
end
end LL
end
section
set_option Elab.async false
set_option linter.all false
set_option maxRecDepth 100000
set_option maxHeartbeats 999999
namespace LL
open PySem L3 L4 K24
section
variable {x : List (List Int)}
end
end LL
end
section
set_option Elab.async false
set_option linter.all false
set_option maxRecDepth 100000
set_option maxHeartbeats 999999
namespace LL
open PySem L3 L4 K24
theorem short9 {x : List (List Int)} (hx : Ord.Rows x) (hn : x.length ≤ 9) : ∀ r ∈ x, r.length ≤ 9 := fun r hr => Nat.le_trans (Ord.Rows.short hx hr) hn
section
variable {x : List (List Int)}
theorem tups_map : ∀ x : List (List Int), tupsOf (x.map tupI) = some x
  | [] => rfl
  | r :: x => by
    have e : tupOf (tupI r) = some r := by unfold tupI; exact intsOf_map r
    show ((tupOf (tupI r)).bind fun t => (tupsOf (x.map tupI)).map (t :: ·)) = _
    rw [e, tups_map x]
    rfl
theorem Wf_cnt : ∀ (m : Nat) (a : List Int), L7.Wf (rdI x) m a = cnt x m a
  | 0, a => rfl
  | m + 1, a => by
    show (((readyI x a).map (joinI a)).map (L7.Wf (rdI x) m)).sum = ((readyI x a).map fun t => cnt x m (joinI a t)).sum
    rw [List.map_map]
    congr 1
    exact List.map_congr_left fun t _ => Wf_cnt m _
theorem many_ok (hx : x.length ≤ 9) (hr : ∀ r ∈ x, r.length ≤ 9) : L7.waysR LL.rdI [ordD x] = .ok (.int (shares x).sum) := by
  have hg : L7.goodX x = true := by
    unfold L7.goodX
    rw [decide_eq_true hx, Bool.true_and, List.all_eq_true]
    exact fun r h => decide_eq_true (hr r h)
  show (match L7.ordOf (ordD x) with
    | some x => if L7.goodX x = true then M.ok (D.int (L7.Wf (rdI x) x.length [])) else .no
    | none => .no) = _
  have e : L7.ordOf (ordD x) = some x := tups_map x
  rw [e]
  show (if L7.goodX x = true then M.ok (D.int (L7.Wf (rdI x) x.length [])) else .no) = _
  rw [if_pos hg, Wf_cnt, ← cnt_Sh x.length [] (-1) (by simp) (.inl rfl), Sh_low x x.length [] (l := -1) (l' := 0) (by decide) (by decide)]
  rfl
end
end LL
end
section
set_option Elab.async false
set_option linter.all false
set_option maxRecDepth 100000
namespace LL
open PySem L3 L4
end LL
end
section
set_option Elab.async false
set_option linter.all false
set_option maxRecDepth 100000
set_option maxHeartbeats 999999
namespace LL
open PySem L3 L4 K24
end LL
end
section
set_option Elab.async false
set_option linter.all false
set_option maxRecDepth 100000
set_option maxHeartbeats 999999
namespace LL
open PySem L3 L4 K24
noncomputable abbrev PR := List (List Int) × List Int
structure RowOk (n : Nat) (R : List PR) (i : Nat) (r : PR) : Prop where
  rows : Ord.Rows r.1
  len : r.1.length = n
  why : (loose r.1 = [] ∧ r.2 = []) ∨ ∃ (a b : Int) (p q : Nat) (u v : PR), loose r.1 ≠ [] ∧ r.2 = [a, b, (p : Int), (q : Int)] ∧ (0 ≤ a ∧ a < (n : Int)) ∧ (0 ≤ b ∧ b < (n : Int)) ∧ looseB r.1 a b = true ∧ p < i ∧ q < i ∧ R[p]? = some u ∧ u.1 = put r.1 a b ∧ R[q]? = some v ∧ v.1 = put r.1 b a
noncomputable def facN : Nat → Nat → Nat
  | _, 0 => 1
  | n, i + 1 => facN n i * (n - i)
theorem gls_fac {x : List (List Int)} : ∀ i : Nat, (gls x i).length ≤ facN x.length i
  | 0 => Nat.le_refl 1
  | i + 1 => by
    have ih := gls_fac (x := x) i
    have go : ∀ L : List (List Int), (∀ w ∈ L, w ∈ gls x i) → (L.flatMap fun w => (readyI x w).map fun t => w ++ [t]).length ≤ L.length * (x.length - i) := by
      intro L
      induction L with
      | nil => intro _; simp
      | cons w L ihL =>
        intro h
        have hw := gls_ready (h w List.mem_cons_self)
        have nd := going_nd hw.2
        have hf := ready_few (x := x) (a := w) ⟨nd.1, nd.2⟩
        have := ihL fun u hu => h u (List.mem_cons_of_mem _ hu)
        rw [List.flatMap_cons, List.length_append, List.length_map, List.length_cons, Nat.add_mul]
        omega
    have h1 := go (gls x i) fun w h => h
    exact Nat.le_trans h1 (Nat.mul_le_mul_right _ ih)
end LL
end
section
set_option Elab.async false
set_option linter.all false
set_option maxRecDepth 100000
namespace K10
open PySem L3 L4
noncomputable def f_one_step_on : FnF := runF 4 2
    (sSeq (sOwn 2 (eLst aNil))
    (sSeq (sFor (iWalk (eVar 1)) (gN1 3)
      (sX (xM1 2 extM (xPureR (eComp 1 [3] (iWalk (eCall LL.f_ready_things (aCons (eVar 0) (aCons (eVar 3) aNil)))) (g1 0) tTrue (eBin addM (eVar 1) (eTup (aCons (eVar 0) aNil))))))))
    (sRet (eVar 2))))
noncomputable def f_goings_listed : FnF := runF 3 1
    (sSeq (sIf (tV (eBin gtM (eCall (L7.waysR LL.rdI) (aCons (eVar 0) aNil)) (eC (.int 200))))
      (sRaiseA (aCons (eC (.str "too many goings to list")) aNil) "TooGreat")
      sEnd)
    (sSeq (sSet 1 (eLst (aCons (eTup aNil) aNil)))
    (sSeq (sNox (sFor (iRange (aCons (eCB lenM (aCons (eVar 0) aNil)) aNil)) (gN1 2)
      (sSet 1 (eCall f_one_step_on (aCons (eVar 0) (aCons (eVar 1) aNil))))))
    (sRet (eCB tupleM (aCons (eVar 1) aNil))))))
noncomputable def f_l_refusal : FnF := runF 2 1
    (sSeq (sSet 1 (eC (.str "NoThing Looped NoOrder NoNumber TooGreat NoGoing NoRow NoFilling NotLoose NotForest NoShape")))
    (sSeq (sSet 1 (eBin addM (eVar 1) (eC (.str " NoName NoLine"))))
    (sSeq (sIf (tOr (tV (eBin neM (eBin countTM (eVar 0) (eC (.bl true))) (eC (.int 2)))) (tNot (tV (eBin ixM (eVar 0) (eC (.int 13))))))
      (sRet (eC (.str "other")))
      sEnd)
    (sRet (eBin ixM (eBin splitM (eVar 1) (eC (.str " "))) (eBin indexTM (eVar 0) (eC (.bl true))))))))
noncomputable def f_l_chains : FnF := runF 9 2
    (sSeq (sOwn 2 (eListR (aCons (eCB sumTM (aCons (eVar 0) aNil)) aNil)))
    (sSeq (sOwn 3 (eBin repLM (eLst (aCons (eTup aNil) aNil)) (eCB sumTM (aCons (eVar 0) aNil))))
    (sSeq (sSet 4 (eC (.int 0)))
    (sSeq (sFor (iWalk (eVar 0)) (gN1 5)
      (sSeq (sOwn 6 (eLst aNil))
      (sFor (iRange (aCons (eVar 5) aNil)) (gN1 7)
        (sSeq (sSetX 8 (xM1 2 popM (xPure (eBin modM (eBin ixM (eVar 1) (eVar 4)) (eCB lenM (aCons (eVar 2) aNil))))))
        (sSeq (sPut 3 (xPure (eCB tupleM (aCons (eCB sortedM (aCons (eVar 6) aNil)) aNil))) (eVar 8))
        (sSeq (sX (xM1 6 appM (xPureR (eVar 8))))
        (sSet 4 (eBin addM (eVar 4) (eC (.int 1))))))))))
    (sRet (eCB tupleM (aCons (eVar 3) aNil)))))))
noncomputable def f_l_two_hundred : FnF := runF 8 1
    (sSeq (sSet 1 (eTup (aCons (eC (.int 0)) (aCons (eC (.int 1)) (aCons (eC (.int 2)) (aCons (eC (.int 3)) (aCons (eC (.int 4)) aNil)))))))
    (sSeq (sSet 2 (eLst (aCons (eTup aNil) (aCons (eTup (aCons (eC (.int 0)) aNil)) (aCons (eTup (aCons (eC (.int 0)) aNil)) (aCons (eTup aNil) (aCons (eTup aNil) (aCons (eVar 1) (aCons (eVar 1) (aCons (eBin addM (eVar 1) (eTup (aCons (eC (.int 5)) (aCons (eC (.int 6)) aNil)))) (aCons (eBin addM (eVar 1) (eTup (aCons (eC (.int 6)) aNil))) aNil)))))))))))
    (sSeq (sOwn 3 (eListR (aCons (eC (.int 9)) aNil)))
    (sSeq (sOwn 4 (eLst aNil))
    (sSeq (sFor (iRange (aCons (eC (.int 9)) aNil)) (gN1 5)
      (sX (xM1 4 appM (xM1 3 popM (xPure (eBin modM (eBin ixM (eVar 0) (eVar 5)) (eCB lenM (aCons (eVar 3) aNil))))))))
    (sSeq (sOwn 6 (eBin repLM (eLst (aCons (eTup aNil) aNil)) (eC (.int 9))))
    (sSeq (sFor (iRange (aCons (eC (.int 9)) aNil)) (gN1 7)
      (sPut 6 (xPure (eCB tupleM (aCons (eCB sortedM (aCons (eComp 1 [4] (iWalk (eBin ixM (eVar 2) (eVar 7))) (g1 0) tTrue (eBin ixM (eVar 1) (eVar 0))) aNil)) aNil))) (eBin ixM (eVar 4) (eVar 7))))
    (sRet (eCB tupleM (aCons (eVar 6) aNil))))))))))
noncomputable def f_l_asked : FnF := runF 4 1
    (sSeq (sSet 1 (eC .non))
    (sSeq (sSet 2 (eLst aNil))
    (sTryN (sThr (rCall f_goings_listed (aCons (eVar 0) aNil)) (sSet 1 (eCall f_goings_listed (aCons (eVar 0) aNil)))) (fun c => if c = "TooGreat" then some [.no, .no, .ro (.lst [.bl false, .bl false, .bl false, .bl false, .bl true, .bl false, .bl false, .bl false, .bl false, .bl false, .bl false, .bl false, .bl false, .bl true]), .no] else none)
    (sSeq (sIf (tV (eBin gtM (eCB lenM (aCons (eVar 2) aNil)) (eC (.int 0))))
      (sRet (eTup (aCons (eC (.str "refused")) (aCons (eCall f_l_refusal (aCons (eVar 2) aNil)) aNil))))
      sEnd)
    (sRet (eTup (aCons (eC (.str "told")) (aCons (eVar 1) aNil))))))))
noncomputable def f_law : FnF := runF 8 1
    (sSeq (sSet 1 (eCall LL.f_l_draws (aCons (eCall LL.f_l_cell (aCons (eVar 0) (aCons (eC (.int 2)) aNil))) (aCons (eC (.int 2)) (aCons (eC (.int 300007)) aNil)))))
    (sSeq (sSet 2 (eCall LL.f_l_drawn (aCons (eVar 0) (aCons (eC (.int 0)) (aCons (eC (.int 6)) (aCons (eC (.int 100003)) aNil))))))
    (sSeq (sIf (tV (eBin eqM (eBin modM (eBin ixM (eVar 1) (eC (.int 0))) (eC (.int 3))) (eC (.int 1))))
      (sSeq (sSet 3 (eLst (aCons (eTup (aCons (eC (.int 3)) (aCons (eC (.int 2)) (aCons (eC (.int 2)) aNil)))) (aCons (eTup (aCons (eC (.int 5)) (aCons (eC (.int 4)) aNil))) (aCons (eTup (aCons (eC (.int 6)) (aCons (eC (.int 3)) aNil))) (aCons (eTup (aCons (eC (.int 4)) (aCons (eC (.int 1)) (aCons (eC (.int 1)) (aCons (eC (.int 1)) aNil))))) (aCons (eTup (aCons (eC (.int 2)) (aCons (eC (.int 2)) (aCons (eC (.int 2)) aNil)))) (aCons (eTup (aCons (eC (.int 3)) (aCons (eC (.int 3)) (aCons (eC (.int 1)) aNil)))) (aCons (eTup (aCons (eC (.int 5)) (aCons (eC (.int 2)) (aCons (eC (.int 1)) aNil)))) (aCons (eTup (aCons (eC (.int 6)) (aCons (eC (.int 2)) (aCons (eC (.int 1)) aNil)))) (aCons (eTup (aCons (eC (.int 4)) (aCons (eC (.int 3)) (aCons (eC (.int 1)) aNil)))) aNil)))))))))))
      (sSeq (sSet 3 (eBin addM (eVar 3) (eLst (aCons (eTup (aCons (eC (.int 7)) (aCons (eC (.int 1)) (aCons (eC (.int 1)) aNil)))) (aCons (eTup (aCons (eC (.int 3)) (aCons (eC (.int 3)) (aCons (eC (.int 2)) aNil)))) (aCons (eTup (aCons (eC (.int 3)) (aCons (eC (.int 2)) (aCons (eC (.int 1)) (aCons (eC (.int 1)) aNil))))) (aCons (eTup (aCons (eC (.int 5)) (aCons (eC (.int 1)) (aCons (eC (.int 1)) aNil)))) (aCons (eTup (aCons (eC (.int 2)) (aCons (eC (.int 2)) (aCons (eC (.int 1)) (aCons (eC (.int 1)) aNil))))) (aCons (eTup (aCons (eC (.int 7)) (aCons (eC (.int 2)) aNil))) (aCons (eTup (aCons (eC (.int 4)) (aCons (eC (.int 2)) (aCons (eC (.int 1)) aNil)))) aNil))))))))))
      (sSeq (sSet 4 (eCall LL.f_l_draws (aCons (eCall LL.f_l_cell (aCons (eVar 0) (aCons (eC (.int 3)) aNil))) (aCons (eC (.int 9)) (aCons (eC (.int 400009)) aNil)))))
      (sSeq (sSet 2 (eCall f_l_two_hundred (aCons (eVar 4) aNil)))
      (sIf (tV (eBin ltM (eBin modM (eBin ixM (eVar 1) (eC (.int 1))) (eC (.int 18))) (eC (.int 16))))
        (sSet 2 (eCall f_l_chains (aCons (eBin ixM (eVar 3) (eBin modM (eBin ixM (eVar 1) (eC (.int 1))) (eC (.int 18)))) (aCons (eVar 4) aNil))))
        sEnd)))))
      sEnd)
    (sSeq (sSet 5 (eCB tupleM (aCons (eCall LL.f_l_goings (aCons (eVar 2) aNil)) aNil)))
    (sSeq (sSet 6 (eTup (aCons (eC (.str "told")) (aCons (eVar 5) aNil))))
    (sSeq (sIf (tV (eBin gtM (eCB lenM (aCons (eVar 5) aNil)) (eC (.int 200))))
      (sSet 6 (eTup (aCons (eC (.str "refused")) (aCons (eC (.str "TooGreat")) aNil))))
      sEnd)
    (sSeq (sFor (iRange (aCons (eC (.int 2)) aNil)) (gN1 7)
      (sIf (tOr (tNot (tV (eCall (LL.f_l_same 6) (aCons (eCall (L7.waysR LL.rdI) (aCons (eVar 2) aNil)) (aCons (eCB lenM (aCons (eVar 5) aNil)) aNil))))) (tNot (tV (eCall (LL.f_l_same 6) (aCons (eCall f_l_asked (aCons (eVar 2) aNil)) (aCons (eVar 6) aNil))))))
        (sRet (eC (.bl false)))
        sEnd))
    (sRet (eC (.bl true))))))))))
end K10
end
section
set_option Elab.async false
set_option linter.all false
set_option maxRecDepth 100000
set_option maxHeartbeats 999999
namespace K10
open PySem L3 L4 K24 LL
section
variable {x : List (List Int)}
theorem run_eq {n np : Nat} {b : SF} {ds : List D} {d : D} (hl : ds.length = np) (h : Rt (b (startS n ds)) fun e => e = d) : runF n np b ds = .ok d := by
  obtain ⟨d', e, rfl⟩ := run_ok hl h
  exact e
theorem fac9 {n i : Nat} (hn : n ≤ 9) (hi : i ≤ 9) : facN n i ≤ 362880 := by
  have h : ∀ (n : Fin 10) (i : Fin 10), facN n i ≤ 362880 := by decide
  exact h ⟨n, by omega⟩ ⟨i, by omega⟩
theorem gls_9 {i : Nat} (hx : x.length ≤ 9) (hi : i ≤ 9) : (gls x i).length ≤ 362880 := Nat.le_trans (gls_fac i) (fac9 hx hi)
theorem take_flat {α β : Type} (f : α → List β) (L : List α) (j : Nat) : ((L.take j).flatMap f).length ≤ (L.flatMap f).length := by
  have e : L.flatMap f = (L.take j).flatMap f ++ (L.drop j).flatMap f := by rw [← List.flatMap_append, List.take_append_drop]
  rw [e, List.length_append]
  omega
theorem goings9 (hx : x.length ≤ 9) (hrw : ∀ r ∈ x, r.length ≤ 9) : f_l_goings [ordD x] = .ok (.lst ((gls x x.length).map tupI)) := by
  unfold f_l_goings
  have pb : ∀ i, i ≤ 9 → (gls x i).length ≤ 362880 := fun i hi => gls_9 hx hi
  have main : Rt ((sSeq (sSet 1 (eLst (aCons (eTup aNil) aNil)))
    (sSeq (sFor (iRange (aCons (eCB lenM (aCons (eVar 0) aNil)) aNil)) (gN1 2)
      (sSeq (sOwn 3 (eLst aNil))
      (sSeq (sFor (iWalk (eVar 1)) (gN1 4)
        (sFor (iRange (aCons (eCB lenM (aCons (eVar 0) aNil)) aNil)) (gN1 5)
          (sIf (tAnd (tV (eBin (inM true) (eVar 5) (eVar 4))) (tV (eCB allM (aCons (eComp 1 [4] (iWalk (eBin ixM (eVar 0) (eVar 5))) (g1 0) tTrue (eBin (inM false) (eVar 0) (eVar 1))) aNil))))
            (sX (xM1 3 appM (xPureR (eBin addM (eVar 4) (eTup (aCons (eVar 5) aNil))))))
            sEnd)))
      (sFrz 3 (sSet 1 (eVar 3))))))
    (sRet (eVar 1)))) (startS 6 [ordD x])) fun d => d = .lst ((gls x x.length).map tupI) := by
    refine rt_seqE [.ro (ordD x), .ro (.lst ((gls x 0).map tupI)), .no, .no, .no, .no] rfl ?_
    refine rt_seq (fun ρ => ∃ v2 v3 v4 v5, ρ = [.ro (ordD x), .ro (.lst ((gls x x.length).map tupI)), v2, v3, v4, v5]) ?_ fun ρ ⟨v2, v3, v4, v5, e⟩ => by subst e; exact rt_ret _ rfl rfl
    refine nx_rng x.length (fun i ρ => ∃ v2 v3 v4 v5, ρ = [.ro (ordD x), .ro (.lst ((gls x i).map tupI)), v2, v3, v4, v5]) (args1 (cb1E rfl len_ord)) (by omega) ⟨_, _, _, _, rfl⟩ (fun i ρ hi ⟨v2, v3, v4, v5, e⟩ => ?_) fun ρ h => h
    subst e
    refine ⟨[.ro (ordD x), .ro (.lst ((gls x i).map tupI)), .ro (.int i), v3, v4, v5], rfl, ?_⟩
    refine nx_seqE [.ro (ordD x), .ro (.lst ((gls x i).map tupI)), .ro (.int i), .ow (.lst []), v4, v5] rfl ?_
    refine nx_seq (fun ρ => ∃ v4 v5, ρ = [.ro (ordD x), .ro (.lst ((gls x i).map tupI)), .ro (.int i), .ow (.lst ((gls x (i + 1)).map tupI)), v4, v5]) ?_ fun ρ hq0 => by
      obtain ⟨v4, v5, e⟩ := hq0
      subst e
      exact nx_set (i := 1) (f := eVar 3) (ρ := [.ro (ordD x), .ro (.lst ((gls x i).map tupI)), .ro (.int i), .ro (.lst ((gls x (i + 1)).map tupI)), v4, v5]) _ rfl ⟨_, _, _, _, rfl⟩
    have hlen := pb i (by omega)
    refine nx_for ((gls x i).map tupI) (fun j ρ => ∃ v4 v5, ρ = [.ro (ordD x), .ro (.lst ((gls x i).map tupI)), .ro (.int i), .ow (.lst ((((gls x i).take j).flatMap fun w => extU x w x.length).map tupI)), v4, v5]) rfl ⟨_, _, rfl⟩ (fun j d ρ hd ⟨v4, v5, e⟩ => ?_) fun ρ ⟨v4, v5, e⟩ => ⟨v4, v5, by rw [e, List.length_map, List.take_of_length_le (Nat.le_refl _)]; rfl⟩
    subst e
    rw [List.getElem?_map] at hd
    obtain ⟨w, hw, rfl⟩ := Option.map_eq_some_iff.1 hd
    have hj : j < (gls x i).length := (List.getElem?_eq_some_iff.1 hw).1
    have hwl := gls_in i w (List.mem_of_getElem? hw)
    refine ⟨[.ro (ordD x), .ro (.lst ((gls x i).map tupI)), .ro (.int i), .ow (.lst ((((gls x i).take j).flatMap fun w => extU x w x.length).map tupI)), .ro (tupI w), v5], rfl, ?_⟩
    generalize hA : ((gls x i).take j).flatMap (fun w => extU x w x.length) = A
    have hAl : A.length ≤ 362880 := by
      rw [← hA]
      exact Nat.le_trans (take_flat _ _ _) (pb (i + 1) (by omega))
    have hnext : ((gls x i).take (j + 1)).flatMap (fun w => extU x w x.length) = A ++ extU x w x.length := by
      rw [List.take_succ, hw, List.flatMap_append, hA]
      simp
    rw [hnext]
    refine nx_rng x.length (fun b ρ => ∃ v5, ρ = [.ro (ordD x), .ro (.lst ((gls x i).map tupI)), .ro (.int i), .ow (.lst ((A ++ extU x w b).map tupI)), .ro (tupI w), v5]) (args1 (cb1E rfl len_ord)) (by omega) ⟨v5, by unfold extU rdU; simp [rngP]⟩ (fun b ρ hb ⟨v5, e⟩ => ?_) fun ρ ⟨v5, e⟩ => ⟨_, v5, e⟩
    subst e
    refine ⟨[.ro (ordD x), .ro (.lst ((gls x i).map tupI)), .ro (.int i), .ow (.lst ((A ++ extU x w b).map tupI)), .ro (tupI w), .ro (.int b)], rfl, ?_⟩
    have hrow : row x (b : Int) ∈ x := by
      unfold row
      rw [show ((b : Int)).toNat = b from Int.toNat_natCast b, List.getElem?_eq_getElem hb]
      exact List.getElem_mem _
    refine nx_if (!w.contains (b : Int) && (row x b).all fun l => w.contains l) ?_ (fun hc => ?_) fun hc => ?_
    · refine tandE (b := !w.contains (b : Int)) (tvE (binE rfl rfl inM_tup) rfl) (fun h => ?_) fun h => by rw [h]; rfl
      rw [h, Bool.true_and]
      refine tvE (d := .bl ((row x b).all fun l => w.contains l)) (cb1E (x := .lst (((row x b).map fun l => w.contains l).map D.bl)) ?_ ?_) rfl
      · rw [List.map_map]
        have hrl := hrw _ hrow
        refine compE ((row x b).map D.int) ?_ (by rw [List.length_map]; omega) ?_
        · unfold iWalk
          rw [binE (g := ixM) (a := eVar 0) (b := eVar 5) (x := ordD x) (y := .int b) rfl rfl (ord_at (by omega) (by omega))]
          rfl
        · exact comp_mapE D.int (fun l => .bl (w.contains l)) _ fun l _ => ⟨[some (.int l), some (tupI w)], rfl, binE rfl rfl inM_tup⟩
      · rw [all_bls]
        simp [List.all_map, Function.comp_def]
    · refine ⟨_, appE (d := tupI (w ++ [(b : Int)])) (ds := (A ++ extU x w b).map tupI) ?_ rfl (by rw [List.length_map, List.length_append]; have : (extU x w b).length ≤ b := (by unfold extU; rw [List.length_map]; exact rdU_len w b); omega), .ro (.int b), ?_⟩
      · refine binE (x := tupI w) (y := tupI [(b : Int)]) rfl rfl ?_
        unfold tupI
        rw [addM_tup (by simp; omega), List.map_append]
      · have e6 : extU x w (b + 1) = extU x w b ++ [w ++ [(b : Int)]] := by
          unfold extU
          rw [rdU_succ, if_pos hc, List.map_append]
          rfl
        rw [e6, ← List.append_assoc, List.map_append (l₁ := A ++ extU x w b)]
        rfl
    · refine nx_end ⟨.ro (.int b), ?_⟩
      have e6 : extU x w (b + 1) = extU x w b := by
        unfold extU
        rw [rdU_succ, if_neg (by rw [hc]; decide), List.append_nil]
      rw [e6]
  obtain ⟨d, e, rfl⟩ := run_ok rfl main
  exact e
theorem extE {i : Nat} {f : EF} {ρ : SEnv} {ds es : List D} (h1 : f (vRd ρ) = some (.lst es)) (h2 : ρ[i]? = some (.ow (.lst ds))) (hl : ds.length + es.length ≤ 16777216) : sX (xM1 i extM (xPureR f)) ρ = .nx (ρ.set i (.ow (.lst (ds ++ es)))) := by
  have e : xM1 i extM (xPureR f) ρ = some (ρ.set i (.ow (.lst (ds ++ es))), .non) := by
    unfold xM1 xPureR
    rw [h2, h1]
    show ((ownL ρ[i]?).bind fun ds => (extM ds (.lst es)).map _) = _
    rw [h2]
    show ((extM ds (.lst es)).map _) = _
    rw [extM_ok hl]
    rfl
  unfold sX
  rw [e]
theorem one_step (hx : x.length ≤ 9) (hr : ∀ r ∈ x, r.length ≤ 9) {i : Nat} (hi : i + 1 ≤ 9) : f_one_step_on [ordD x, .lst ((gls x i).map tupI)] = .ok (.lst ((gls x (i + 1)).map tupI)) := by
  unfold f_one_step_on
  have main : Rt ((sSeq (sOwn 2 (eLst aNil))
    (sSeq (sFor (iWalk (eVar 1)) (gN1 3)
      (sX (xM1 2 extM (xPureR (eComp 1 [3] (iWalk (eCall LL.f_ready_things (aCons (eVar 0) (aCons (eVar 3) aNil)))) (g1 0) tTrue (eBin addM (eVar 1) (eTup (aCons (eVar 0) aNil))))))))
    (sRet (eVar 2)))) (startS 4 [ordD x, .lst ((gls x i).map tupI)])) fun d => d = .lst ((gls x (i + 1)).map tupI) := by
    refine rt_seqE [.ro (ordD x), .ro (.lst ((gls x i).map tupI)), .ow (.lst []), .no] rfl ?_
    refine rt_seq (fun ρ => ∃ v3, ρ = [.ro (ordD x), .ro (.lst ((gls x i).map tupI)), .ow (.lst ((gls x (i + 1)).map tupI)), v3]) ?_ fun ρ ⟨v3, e⟩ => by subst e; exact rt_ret _ rfl rfl
    refine nx_for ((gls x i).map tupI) (fun j ρ => ∃ v3, ρ = [.ro (ordD x), .ro (.lst ((gls x i).map tupI)), .ow (.lst ((((gls x i).take j).flatMap fun w => extU x w x.length).map tupI)), v3]) rfl ⟨_, rfl⟩ (fun j d ρ hd ⟨v3, e⟩ => ?_) fun ρ ⟨v3, e⟩ => ⟨v3, by rw [e, List.length_map, List.take_of_length_le (Nat.le_refl _)]; rfl⟩
    subst e
    rw [List.getElem?_map] at hd
    obtain ⟨w, hw, rfl⟩ := Option.map_eq_some_iff.1 hd
    have hwl := gls_in i w (List.mem_of_getElem? hw)
    refine ⟨[.ro (ordD x), .ro (.lst ((gls x i).map tupI)), .ow (.lst ((((gls x i).take j).flatMap fun w => extU x w x.length).map tupI)), .ro (tupI w)], rfl, ?_⟩
    have hAl : ((((gls x i).take j).flatMap fun w => extU x w x.length)).length ≤ 362880 := Nat.le_trans (take_flat _ _ _) (gls_9 hx hi)
    have hnext : ((gls x i).take (j + 1)).flatMap (fun w => extU x w x.length) = ((gls x i).take j).flatMap (fun w => extU x w x.length) ++ extU x w x.length := by
      rw [List.take_succ, hw, List.flatMap_append]
      simp
    rw [hnext]
    generalize hA : ((gls x i).take j).flatMap (fun w => extU x w x.length) = A at hAl ⊢
    have hf : (readyI x w).length ≤ x.length := rdU_len w x.length
    have hc : eComp 1 [3] (iWalk (eCall LL.f_ready_things (aCons (eVar 0) (aCons (eVar 3) aNil)))) (g1 0) tTrue (eBin addM (eVar 1) (eTup (aCons (eVar 0) aNil))) (vRd [Sv.ro (ordD x), .ro (.lst ((gls x i).map tupI)), .ow (.lst (A.map tupI)), .ro (tupI w)]) = some (.lst ((extU x w x.length).map tupI)) := by
      have he : (extU x w x.length).map tupI = (readyI x w).map fun t => tupI (w ++ [t]) := by
        unfold extU
        rw [List.map_map]
        rfl
      rw [he]
      refine compE ((readyI x w).map D.int) ?_ (by rw [List.length_map]; omega) ?_
      · unfold iWalk
        rw [call2E (x := ordD x) (y := tupI w) rfl rfl (ready_ok hx hr)]
        rfl
      · refine comp_mapE D.int (fun t => tupI (w ++ [t])) _ fun t _ => ⟨[some (.int t), some (tupI w)], rfl, ?_⟩
        refine binE (x := tupI w) (y := tupI [t]) rfl rfl ?_
        unfold tupI
        rw [addM_tup (by simp; omega), List.map_append]
    have hlen : (extU x w x.length).length ≤ x.length := by unfold extU; rw [List.length_map]; exact hf
    refine ⟨_, extE hc rfl (by rw [List.length_map, List.length_map]; omega), ⟨.ro (tupI w), ?_⟩⟩
    rw [← List.map_append]
    rfl
  obtain ⟨d, e, rfl⟩ := run_ok rfl main
  exact e
theorem seqX2 {f g : SF} {ρ : SEnv} {d : D} (h : f ρ = .rt d) : sSeq f g ρ = .rt d := by
  unfold sSeq
  rw [h]
theorem nx_nox {f : SF} {ρ : SEnv} {Q : SEnv → Prop} (h : Nx (f ρ) Q) : Nx (sNox f ρ) Q := by
  obtain ⟨ρ', e, q⟩ := h
  exact ⟨ρ', by unfold sNox; rw [e], q⟩
theorem gt200 (s : Int) : gtM (.int s) (.int 200) = some (.bl (decide (200 < s))) := rfl
theorem listed_ok (hx : x.length ≤ 9) (hr : ∀ r ∈ x, r.length ≤ 9) (h : ¬ 200 < (shares x).sum) : f_goings_listed [ordD x] = .ok (.tup ((gls x x.length).map tupI)) := by
  unfold f_goings_listed
  have main : Rt ((sSeq (sIf (tV (eBin gtM (eCall (L7.waysR LL.rdI) (aCons (eVar 0) aNil)) (eC (.int 200))))
      (sRaiseA (aCons (eC (.str "too many goings to list")) aNil) "TooGreat")
      sEnd)
    (sSeq (sSet 1 (eLst (aCons (eTup aNil) aNil)))
    (sSeq (sNox (sFor (iRange (aCons (eCB lenM (aCons (eVar 0) aNil)) aNil)) (gN1 2)
      (sSet 1 (eCall f_one_step_on (aCons (eVar 0) (aCons (eVar 1) aNil))))))
    (sRet (eCB tupleM (aCons (eVar 1) aNil)))))) (startS 3 [ordD x])) fun d => d = .tup ((gls x x.length).map tupI) := by
    refine rt_seqE [.ro (ordD x), .no, .no] (ifF (tvE (binE (x := .int (shares x).sum) (y := .int 200) (call1E rfl (many_ok hx hr)) rfl (gt200 _)) (by rw [decide_eq_false h]; rfl)) rfl) ?_
    refine rt_seqE [.ro (ordD x), .ro (.lst ((gls x 0).map tupI)), .no] rfl ?_
    refine rt_seq (fun ρ => ∃ v2, ρ = [.ro (ordD x), .ro (.lst ((gls x x.length).map tupI)), v2]) (nx_nox ?_) fun ρ ⟨v2, e⟩ => by subst e; exact rt_ret _ (cb1E rfl tupleM_lst) rfl
    refine nx_rng x.length (fun i ρ => ∃ v2, ρ = [.ro (ordD x), .ro (.lst ((gls x i).map tupI)), v2]) (args1 (cb1E rfl len_ord)) (by omega) ⟨_, rfl⟩ (fun i ρ hi ⟨v2, e⟩ => ?_) fun ρ h => h
    subst e
    refine ⟨[.ro (ordD x), .ro (.lst ((gls x i).map tupI)), .ro (.int i)], rfl, ?_⟩
    exact nx_set (.lst ((gls x (i + 1)).map tupI)) (call2E rfl rfl (one_step hx hr (by omega))) ⟨_, rfl⟩
  obtain ⟨d, e, rfl⟩ := run_ok rfl main
  exact e
theorem listed_ex (hx : x.length ≤ 9) (hr : ∀ r ∈ x, r.length ≤ 9) (h : 200 < (shares x).sum) : f_goings_listed [ordD x] = .ex "TooGreat" := by
  unfold f_goings_listed
  exact runX rfl (seqX (ifT (tvE (binE (x := .int (shares x).sum) (y := .int 200) (call1E rfl (many_ok hx hr)) rfl (gt200 _)) (by rw [decide_eq_true h]; rfl)) rfl))
noncomputable def nms : Str := ("NoThing Looped NoOrder NoNumber TooGreat NoGoing NoRow NoFilling NotLoose NotForest NoShape" : Str) ++ (" NoName NoLine" : Str)
theorem nms_split : Txt.split nms (" " : Str) = [("NoThing" : Str), "Looped", "NoOrder", "NoNumber", "TooGreat", "NoGoing", "NoRow", "NoFilling", "NotLoose", "NotForest", "NoShape", "NoName", "NoLine"] := by decide +kernel
theorem nms_len : nms.length + 2 ≤ szL ∧ ((" " : Str).length == 0) = false := by decide +kernel
theorem addM_str {a b : Str} (h : a.length + b.length ≤ szL) : addM (.str a) (.str b) = some (.str (a ++ b)) := if_pos h
theorem splitM_str {a b : Str} (h : a.length + 2 ≤ szL ∧ (b.length == 0) = false) : splitM (.str a) (.str b) = some (.lst ((Txt.split a b).map D.str)) := if_pos h
theorem nms_add : addM (.str ("NoThing Looped NoOrder NoNumber TooGreat NoGoing NoRow NoFilling NotLoose NotForest NoShape" : Str)) (.str (" NoName NoLine" : Str)) = some (.str nms) := addM_str (by decide +kernel)
noncomputable abbrev kTG : D := .lst [.bl false, .bl false, .bl false, .bl false, .bl true, .bl false, .bl false, .bl false, .bl false, .bl false, .bl false, .bl false, .bl false, .bl true]
theorem refusal_ok : f_l_refusal [kTG] = .ok (.str "TooGreat") := by
  unfold f_l_refusal
  refine runE rfl (seqE _ (setE _ rfl rfl) (seqE [.ro kTG, .ro (.str nms)] (setE (.str nms) (binE rfl rfl nms_add) rfl) (seqE [.ro kTG, .ro (.str nms)] (ifF (torE (b := false) (tvE (d := .bl false) rfl rfl) (fun _ => tnE (b := true) (tvE (d := .bl true) rfl rfl) rfl) fun h => by cases h) rfl) (retE ?_))))
  refine binE (x := .lst ((Txt.split nms (" " : Str)).map D.str)) (y := .int 4) (binE (x := .str nms) (y := .str (" " : Str)) rfl rfl (splitM_str nms_len)) rfl ?_
  rw [nms_split]
  rfl
theorem tryNn {fb : SF} {fh : Str → Option SEnv} {fr : SF} {ρ ρ' : SEnv} {o : Out} (h : fb ρ = .nx ρ') (h2 : fr ρ' = o) : sTryN fb fh fr ρ = o := by
  unfold sTryN
  rw [h]
  exact h2
theorem tryNx {fb : SF} {fh : Str → Option SEnv} {fr : SF} {ρ ρ1 : SEnv} {c : Str} {d : D} (h : fb ρ = .ex c) (h1 : fh c = some ρ1) (h2 : fr ρ1 = .rt d) : sTryN fb fh fr ρ = .rt d := by
  unfold sTryN
  rw [h]
  dsimp only
  rw [h1]
  dsimp only
  rw [h2]
theorem asked_ok (hx : x.length ≤ 9) (hr : ∀ r ∈ x, r.length ≤ 9) (h : ¬ 200 < (shares x).sum) : f_l_asked [ordD x] = .ok (.tup [.str "told", .tup ((gls x x.length).map tupI)]) := by
  have e := listed_ok hx hr h
  unfold f_l_asked
  refine runE rfl (seqE _ rfl (seqE _ rfl (tryNn (ρ' := [.ro (ordD x), .ro (.tup ((gls x x.length).map tupI)), .ro (.lst []), .no]) (thrN (rc1 (x := ordD x) rfl (by rw [e]; rfl)) (setE _ (call1E rfl e) rfl)) ?_)))
  exact seqE _ rfl (retE rfl)
theorem asked_ex (hx : x.length ≤ 9) (hr : ∀ r ∈ x, r.length ≤ 9) (h : 200 < (shares x).sum) : f_l_asked [ordD x] = .ok (.tup [.str "refused", .str "TooGreat"]) := by
  have e := listed_ex hx hr h
  unfold f_l_asked
  refine runE rfl (seqE _ rfl (seqE _ rfl (tryNx (thrX (rc1 (x := ordD x) rfl (by rw [e]; rfl))) (if_pos rfl) ?_)))
  refine seqX2 (ifT rfl (retE ?_))
  unfold eTup
  rw [args2 (x := .str "refused") (y := .str "TooGreat") rfl (call1E (x := kTG) rfl refusal_ok)]
  rfl
theorem popX {i : Nat} {f : EF} {ρ : SEnv} {l : List Int} {k y : Int} (h1 : f (vAll ρ) = some (.int k)) (h2 : ρ[i]? = some (.ow (lstI l))) (h0 : 0 ≤ k) (hk : k < (l.length : Int)) (hl : l.length ≤ 16777216) (hy : l[k.toNat]? = some y) : xM1 i popM (xPure f) ρ = some (ρ.set i (.ow (lstI (l.eraseIdx k.toNat))), .int y) := by
  unfold xM1 xPure
  rw [h2, h1]
  show ((ownL ρ[i]?).bind fun ds => (popM ds (.int k)).map _) = _
  rw [h2]
  show ((popM (l.map D.int) (.int k)).map _) = _
  rw [popM_ok h0 hk hl hy]
  rfl
theorem putT {i : Nat} {f k : EF} {ρ : SEnv} {l : List (List Int)} {v : List Int} {j : Nat} (h1 : f (vAll ρ) = some (tupI v)) (h2 : ρ[i]? = some (.ow (.lst (l.map tupI)))) (h3 : k (vAll ρ) = some (.int (j : Int))) (hj : j < l.length) : sPut i (xPure f) k ρ = .nx (ρ.set i (.ow (.lst ((l.set j v).map tupI)))) := by
  unfold sPut xPure
  rw [h1]
  simp only [Option.bind_some]
  rw [if_pos (show (tupI v).imm = true from imms_ints _)]
  simp only [Option.bind_some]
  rw [h2]
  simp only [ownL, Option.bind_some]
  rw [h3]
  simp only [Option.bind_some, asInt]
  rw [ixP_nat (by rw [List.length_map]; exact hj)]
  simp only [Option.map_some, List.map_set]
theorem repT0 (n : Nat) (h : n ≤ 1000) : repLM (.lst [.tup []]) (.int (n : Int)) = some (.lst ((List.replicate n ([] : List Int)).map tupI)) := by
  show (if _ then _ else _) = _
  rw [if_pos ⟨by simp [szL]; omega, by omega⟩]
  congr 2
  simp only [Int.toNat_natCast]
  clear h
  induction n with
  | zero => rfl
  | succ n ih => rw [List.replicate_succ, List.flatten_cons, ih, List.replicate_succ]; rfl
theorem sum_tup {l : List Int} : sumTM [tupI l] = some (.int l.sum) := by
  show (intsOf (l.map D.int)).map _ = _
  rw [intsOf_map]
  rfl
theorem set_all {α : Type} {P : α → Prop} {l : List α} {j : Nat} {v : α} (h : ∀ r ∈ l, P r) (hv : P v) : ∀ r ∈ l.set j v, P r := fun r hr => by
  rcases List.mem_or_eq_of_mem_set hr with z | z
  · exact h r z
  · rw [z]; exact hv
theorem take_sum {l : List Int} (h : ∀ c ∈ l, 0 ≤ c) {j : Nat} {c : Int} (hj : l[j]? = some c) : (l.take j).sum + c = (l.take (j + 1)).sum ∧ (l.take (j + 1)).sum ≤ l.sum := by
  have e1 : (l.take (j + 1)) = l.take j ++ [c] := by rw [List.take_succ, hj]; rfl
  have e2 : l.sum = (l.take (j + 1)).sum + (l.drop (j + 1)).sum := by rw [← List.sum_append, List.take_append_drop]
  have h3 : ∀ m : List Int, (∀ c ∈ m, 0 ≤ c) → 0 ≤ m.sum := by
    intro m
    induction m with
    | nil => intro _; simp
    | cons a m ih =>
      intro q
      rw [List.sum_cons]
      have := q a List.mem_cons_self
      have := ih fun c hc => q c (List.mem_cons_of_mem _ hc)
      omega
  have := h3 (l.drop (j + 1)) fun c hc => h c (List.mem_of_mem_drop hc)
  refine ⟨by rw [e1, List.sum_append]; simp, by omega⟩
theorem chains_ok {sz dr : List Int} {n : Nat} (hs : ∀ c ∈ sz, 0 ≤ c) (hn : sz.sum = (n : Int)) (h9 : n ≤ 9) (hd : dr.length = 9) : ∃ y : List (List Int), y.length ≤ 9 ∧ (∀ r ∈ y, r.length ≤ 9) ∧ f_l_chains [tupI sz, lstI dr] = .ok (ordD y) := by
  have main : ∃ d, f_l_chains [tupI sz, lstI dr] = .ok d ∧ ∃ y : List (List Int), y.length ≤ 9 ∧ (∀ r ∈ y, r.length ≤ 9) ∧ d = ordD y := by
    unfold f_l_chains
    refine run_ok rfl ?_
    have hsum : ∀ {ρ : DEnv}, ρ[0]? = some (some (tupI sz)) → eCB sumTM (aCons (eVar 0) aNil) ρ = some (.int (n : Int)) := fun {ρ} h => by
      refine cb1E (x := tupI sz) (by unfold eVar; rw [h]; rfl) ?_
      rw [sum_tup, hn]
    refine rt_seqE [.ro (tupI sz), .ro (lstI dr), .ow (lstI (rngP 0 n)), .no, .no, .no, .no, .no, .no] ?_ ?_
    · unfold sOwn eListR
      rw [args1 (x := .int n) (hsum rfl)]
      show (match (if (n : Int).natAbs ≤ 16777216 then some (D.lst ((rngP 0 (n : Int).toNat).map D.int)) else none) with | some d => _ | none => _) = _
      rw [if_pos (by omega)]
      rfl
    refine rt_seqE _ (ownE (binE (x := .lst [.tup []]) (y := .int n) rfl (hsum rfl) (repT0 n (by omega)))) ?_
    refine rt_seqE [.ro (tupI sz), .ro (lstI dr), .ow (lstI (rngP 0 n)), .ow (.lst ((List.replicate n ([] : List Int)).map tupI)), .ro (.int 0), .no, .no, .no, .no] rfl ?_
    refine rt_seq (fun ρ => ∃ (F : List (List Int)) (v2 v4 v5 v6 v7 v8 : Sv), F.length = n ∧ (∀ r ∈ F, r.length ≤ 9) ∧ ρ = [.ro (tupI sz), .ro (lstI dr), v2, .ow (.lst (F.map tupI)), v4, v5, v6, v7, v8]) ?_ ?_
    · refine nx_for (sz.map D.int) (fun j ρ => ∃ (rest : List Int) (F : List (List Int)) (v5 v6 v7 v8 : Sv), (rest.length : Int) + (sz.take j).sum = n ∧ (∀ t ∈ rest, 0 ≤ t ∧ t < (n : Int)) ∧ F.length = n ∧ (∀ r ∈ F, r.length ≤ 9) ∧ ρ = [.ro (tupI sz), .ro (lstI dr), .ow (lstI rest), .ow (.lst (F.map tupI)), .ro (.int (sz.take j).sum), v5, v6, v7, v8]) rfl ⟨rngP 0 n, List.replicate n [], .no, .no, .no, .no, by rw [rngP_length]; simp, fun t ht => by have := rngP_mem.1 ht; omega, by simp, fun r hr => by rw [List.eq_of_mem_replicate hr]; decide, rfl⟩ (fun j d ρ hd2 ⟨rest, F, v5, v6, v7, v8, h1, h2, h3, h4, e⟩ => ?_) fun ρ ⟨rest, F, v5, v6, v7, v8, h1, h2, h3, h4, e⟩ => ⟨F, _, _, v5, v6, v7, v8, h3, h4, e⟩
      subst e
      rw [List.getElem?_map] at hd2
      obtain ⟨c, hc, rfl⟩ := Option.map_eq_some_iff.1 hd2
      obtain ⟨m, em⟩ : ∃ m : Nat, c = (m : Int) := ⟨c.toNat, by have := hs c (List.mem_of_getElem? hc); omega⟩
      obtain ⟨ts1, ts2⟩ := take_sum hs hc
      have tp : 0 ≤ (sz.take j).sum := by
        have := take_sum (l := sz.take j ++ [0]) (j := (sz.take j).length) (c := 0) (fun c hc => by
          rcases List.mem_append.1 hc with z | z
          · exact hs c (List.mem_of_mem_take z)
          · have := List.mem_singleton.1 z; omega) (by simp)
        have h0 : ∀ k, k ≤ sz.length → 0 ≤ (sz.take k).sum := by
          intro k
          induction k with
          | zero => intro _; simp
          | succ k ih =>
            intro hk
            have q := take_sum hs (List.getElem?_eq_getElem (l := sz) (i := k) (by omega))
            have := hs _ (List.getElem_mem (l := sz) (n := k) (by omega))
            have := ih (by omega)
            omega
        exact h0 j (Nat.le_of_lt (List.getElem?_eq_some_iff.1 hc).1)
      rw [hn] at ts2
      generalize hat : (sz.take j).sum = at0' at *
      obtain ⟨a0, ea⟩ : ∃ a0 : Nat, at0' = (a0 : Int) := ⟨at0'.toNat, by omega⟩
      subst ea em
      refine ⟨[.ro (tupI sz), .ro (lstI dr), .ow (lstI rest), .ow (.lst (F.map tupI)), .ro (.int a0), .ro (.int m), v6, v7, v8], rfl, ?_⟩
      refine nx_seqE [.ro (tupI sz), .ro (lstI dr), .ow (lstI rest), .ow (.lst (F.map tupI)), .ro (.int a0), .ro (.int m), .ow (lstI []), v7, v8] rfl ?_
      refine nx_rng m (fun i ρ => ∃ (rest : List Int) (F : List (List Int)) (B : List Int) (v7 v8 : Sv), (rest.length : Int) + (a0 + i) = n ∧ (∀ t ∈ rest, 0 ≤ t ∧ t < (n : Int)) ∧ F.length = n ∧ (∀ r ∈ F, r.length ≤ 9) ∧ B.length = i ∧ ρ = [.ro (tupI sz), .ro (lstI dr), .ow (lstI rest), .ow (.lst (F.map tupI)), .ro (.int ((a0 : Int) + i)), .ro (.int m), .ow (lstI B), v7, v8]) rfl (by omega) ⟨rest, F, [], v7, v8, by omega, h2, h3, h4, rfl, by simp⟩ (fun i ρ hi ⟨rest, F, B, v7, v8, g1, g2, g3, g4, g5, e⟩ => ?_) fun ρ ⟨rest, F, B, v7, v8, g1, g2, g3, g4, g5, e⟩ => ⟨rest, F, .ro (.int m), .ow (lstI B), v7, v8, by omega, g2, g3, g4, by rw [← ts1]; exact e⟩
      subst e
      obtain ⟨q, hq⟩ : ∃ q, dr[a0 + i]? = some q := ⟨_, List.getElem?_eq_getElem (by omega)⟩
      have hr0 : (0 : Int) < rest.length := by omega
      have k0 := Int.emod_nonneg q (show (rest.length : Int) ≠ 0 by omega)
      have k1 := Int.emod_lt_of_pos q hr0
      obtain ⟨y, hy⟩ : ∃ y, rest[(q % (rest.length : Int)).toNat]? = some y := ⟨_, List.getElem?_eq_getElem (by omega)⟩
      have yr := g2 y (List.mem_of_getElem? hy)
      obtain ⟨yn, ey⟩ : ∃ yn : Nat, y = (yn : Int) := ⟨y.toNat, by omega⟩
      subst ey
      refine ⟨[.ro (tupI sz), .ro (lstI dr), .ow (lstI rest), .ow (.lst (F.map tupI)), .ro (.int ((a0 : Int) + i)), .ro (.int m), .ow (lstI B), .ro (.int i), v8], rfl, ?_⟩
      refine nx_seqE [.ro (tupI sz), .ro (lstI dr), .ow (lstI (rest.eraseIdx (q % (rest.length : Int)).toNat)), .ow (.lst (F.map tupI)), .ro (.int ((a0 : Int) + i)), .ro (.int m), .ow (lstI B), .ro (.int i), .ro (.int yn)] ?_ ?_
      · unfold sSetX
        rw [popX (k := q % (rest.length : Int)) (l := rest) (y := (yn : Int)) ?_ rfl k0 k1 (by omega) hy]
        · rfl
        · refine binE (x := .int q) (y := .int rest.length) (binE (x := lstI dr) (y := .int ((a0 + i : Nat) : Int)) rfl (by rw [Int.natCast_add]; rfl) (ints_at hq)) (cb1E (x := lstI rest) rfl (by unfold lstI; rw [lenM_lst, List.length_map])) (modM_int hr0)
      refine nx_seqE _ (putT (v := sortI B) (j := yn) (l := F) (cb1E (x := lstI (sortI B)) (cb1E (x := lstI B) rfl (sorted_ints (by omega))) tupleM_lst) rfl rfl (by omega)) ?_
      refine nx_seqE _ (appE (d := .int yn) (ds := B.map D.int) rfl rfl (by rw [List.length_map]; omega)) ?_
      refine nx_set (.int ((a0 : Int) + i + 1)) rfl ⟨rest.eraseIdx (q % (rest.length : Int)).toNat, F.set yn (sortI B), B ++ [(yn : Int)], .ro (.int i), .ro (.int yn), ?_, fun t ht => g2 t (List.mem_of_mem_eraseIdx ht), by rw [List.length_set]; exact g3, set_all g4 (by rw [(sortI_perm B).length_eq]; omega), by simp [g5], ?_⟩
      · rw [List.length_eraseIdx, if_pos (by omega)]
        omega
      · rw [show ((i + 1 : Nat) : Int) = (i : Int) + 1 from rfl, ← Int.add_assoc]
        unfold lstI
        rw [List.map_append]
        rfl
    · rintro _ ⟨F, v2, v4, v5, v6, v7, v8, h3, h4, rfl⟩
      exact rt_ret (ordD F) (cb1E (x := .lst (F.map tupI)) rfl tupleM_lst) ⟨F, by omega, h4, rfl⟩
  obtain ⟨d, e, y, h1, h2, rfl⟩ := main
  exact ⟨y, h1, h2, e⟩
theorem appX {i : Nat} {x : XF} {ρ ρ' : SEnv} {ds ds' : List D} {d : D} (h0 : ρ[i]? = some (.ow (.lst ds'))) (h1 : x ρ = some (ρ', d)) (h2 : ρ'[i]? = some (.ow (.lst ds))) (hl : ds.length < 16777216) : sX (xM1 i appM x) ρ = .nx (ρ'.set i (.ow (.lst (ds ++ [d])))) := by
  have e : xM1 i appM x ρ = some (ρ'.set i (.ow (.lst (ds ++ [d]))), .non) := by
    unfold xM1
    rw [h0, h1]
    show ((ownL ρ'[i]?).bind fun ds => (appM ds d).map _) = _
    rw [h2]
    show ((appM ds d).map _) = _
    rw [appM_ok hl]
    rfl
  unfold sX
  rw [e]
noncomputable def R2 : List (List Int) := [[], [0], [0], [], [], [0, 1, 2, 3, 4], [0, 1, 2, 3, 4], [0, 1, 2, 3, 4, 5, 6], [0, 1, 2, 3, 4, 6]]
theorem R2_in : ∀ r ∈ R2, r.length ≤ 9 ∧ ∀ a ∈ r, 0 ≤ a ∧ a < 9 := by decide
theorem two_hundred_ok {dr : List Int} (hd : dr.length = 9) : ∃ y : List (List Int), y.length ≤ 9 ∧ (∀ r ∈ y, r.length ≤ 9) ∧ f_l_two_hundred [lstI dr] = .ok (ordD y) := by
  have main : ∃ d, f_l_two_hundred [lstI dr] = .ok d ∧ ∃ y : List (List Int), y.length ≤ 9 ∧ (∀ r ∈ y, r.length ≤ 9) ∧ d = ordD y := by
    unfold f_l_two_hundred
    refine run_ok rfl ?_
    refine rt_seqE [.ro (lstI dr), .ro (tupI [0, 1, 2, 3, 4]), .no, .no, .no, .no, .no, .no] rfl ?_
    refine rt_seqE [.ro (lstI dr), .ro (tupI [0, 1, 2, 3, 4]), .ro (.lst (R2.map tupI)), .no, .no, .no, .no, .no] rfl ?_
    refine rt_seqE [.ro (lstI dr), .ro (tupI [0, 1, 2, 3, 4]), .ro (.lst (R2.map tupI)), .ow (lstI (rngP 0 9)), .no, .no, .no, .no] rfl ?_
    refine rt_seqE [.ro (lstI dr), .ro (tupI [0, 1, 2, 3, 4]), .ro (.lst (R2.map tupI)), .ow (lstI (rngP 0 9)), .ow (lstI []), .no, .no, .no] rfl ?_
    refine rt_seq (fun ρ => ∃ (word : List Int) (v3 v5 : Sv), word.length = 9 ∧ (∀ t ∈ word, 0 ≤ t ∧ t < 9) ∧ ρ = [.ro (lstI dr), .ro (tupI [0, 1, 2, 3, 4]), .ro (.lst (R2.map tupI)), v3, .ow (lstI word), v5, .no, .no]) ?_ ?_
    · refine nx_rng 9 (fun i ρ => ∃ (rest word : List Int) (v5 : Sv), word.length = i ∧ rest.length + i = 9 ∧ (∀ t ∈ rest, 0 ≤ t ∧ t < 9) ∧ (∀ t ∈ word, 0 ≤ t ∧ t < 9) ∧ ρ = [.ro (lstI dr), .ro (tupI [0, 1, 2, 3, 4]), .ro (.lst (R2.map tupI)), .ow (lstI rest), .ow (lstI word), v5, .no, .no]) rfl (by omega) ⟨rngP 0 9, [], .no, rfl, rfl, fun t ht => by have := rngP_mem.1 ht; omega, fun t ht => (nomatch ht), rfl⟩ (fun i ρ hi ⟨rest, word, v5, h1, h2, h3, h4, e⟩ => ?_) fun ρ ⟨rest, word, v5, h1, h2, h3, h4, e⟩ => ⟨word, _, v5, h1, h4, e⟩
      subst e
      obtain ⟨q, hq⟩ : ∃ q, dr[i]? = some q := ⟨_, List.getElem?_eq_getElem (by omega)⟩
      have hr0 : (0 : Int) < rest.length := by omega
      have k0 := Int.emod_nonneg q (show (rest.length : Int) ≠ 0 by omega)
      have k1 := Int.emod_lt_of_pos q hr0
      obtain ⟨y, hy⟩ : ∃ y, rest[(q % (rest.length : Int)).toNat]? = some y := ⟨_, List.getElem?_eq_getElem (by omega)⟩
      have yr := h3 y (List.mem_of_getElem? hy)
      refine ⟨[.ro (lstI dr), .ro (tupI [0, 1, 2, 3, 4]), .ro (.lst (R2.map tupI)), .ow (lstI rest), .ow (lstI word), .ro (.int i), .no, .no], rfl, ?_⟩
      refine ⟨_, appX (ds' := word.map D.int) (ds := word.map D.int) rfl (popX (k := q % (rest.length : Int)) (l := rest) (y := y) (binE (x := .int q) (y := .int rest.length) (binE (x := lstI dr) (y := .int (i : Int)) rfl rfl (ints_at hq)) (cb1E (x := lstI rest) rfl (by unfold lstI; rw [lenM_lst, List.length_map])) (modM_int hr0)) rfl k0 k1 (by omega) hy) rfl (by rw [List.length_map]; omega), rest.eraseIdx (q % (rest.length : Int)).toNat, word ++ [y], .ro (.int i), by simp [h1], ?_, fun t ht => h3 t (List.mem_of_mem_eraseIdx ht), fun t ht => ?_, ?_⟩
      · rw [List.length_eraseIdx, if_pos (by omega)]
        omega
      · rcases List.mem_append.1 ht with z | z
        · exact h4 t z
        · rw [List.mem_singleton.1 z]; exact yr
      · unfold lstI
        rw [List.map_append]
        rfl
    rintro _ ⟨word, v3, v5, hw, hwr, rfl⟩
    refine rt_seqE _ (ownE (binE (x := .lst [.tup []]) (y := .int ((9 : Nat) : Int)) rfl rfl (repT0 9 (by omega)))) ?_
    refine rt_seq (fun ρ => ∃ (F : List (List Int)) (v7 : Sv), F.length = 9 ∧ (∀ r ∈ F, r.length ≤ 9) ∧ ρ = [.ro (lstI dr), .ro (tupI [0, 1, 2, 3, 4]), .ro (.lst (R2.map tupI)), v3, .ow (lstI word), v5, .ow (.lst (F.map tupI)), v7]) ?_ ?_
    · refine nx_rng 9 (fun i ρ => ∃ (F : List (List Int)) (v7 : Sv), F.length = 9 ∧ (∀ r ∈ F, r.length ≤ 9) ∧ ρ = [.ro (lstI dr), .ro (tupI [0, 1, 2, 3, 4]), .ro (.lst (R2.map tupI)), v3, .ow (lstI word), v5, .ow (.lst (F.map tupI)), v7]) rfl (by omega) ⟨List.replicate 9 [], .no, by simp, fun r hr => by rw [List.eq_of_mem_replicate hr]; decide, rfl⟩ (fun i ρ hi ⟨F, v7, h1, h2, e⟩ => ?_) fun ρ h => h
      subst e
      have hl9 : R2.length = 9 := rfl
      obtain ⟨r, hr⟩ : ∃ r, R2[i]? = some r := ⟨_, List.getElem?_eq_getElem (by omega)⟩
      obtain ⟨rl, ra⟩ := R2_in r (List.mem_of_getElem? hr)
      obtain ⟨y, hy⟩ : ∃ y, word[i]? = some y := ⟨_, List.getElem?_eq_getElem (by omega)⟩
      have yr := hwr y (List.mem_of_getElem? hy)
      obtain ⟨yn, ey⟩ : ∃ yn : Nat, y = (yn : Int) := ⟨y.toNat, by omega⟩
      subst ey
      refine ⟨[.ro (lstI dr), .ro (tupI [0, 1, 2, 3, 4]), .ro (.lst (R2.map tupI)), v3, .ow (lstI word), v5, .ow (.lst (F.map tupI)), .ro (.int i)], rfl, ?_⟩
      refine ⟨_, putT (v := sortI (r.map (at0 word))) (j := yn) (l := F) (cb1E (x := lstI (sortI (r.map (at0 word)))) (cb1E (x := lstI (r.map (at0 word))) ?_ (sorted_ints (by rw [List.length_map]; omega))) tupleM_lst) rfl (binE (x := lstI word) (y := .int i) rfl rfl (ints_at hy)) (by omega), F.set yn (sortI (r.map (at0 word))), .ro (.int i), by rw [List.length_set]; exact h1, set_all h2 (by rw [(sortI_perm _).length_eq, List.length_map]; exact rl), rfl⟩
      unfold lstI
      rw [List.map_map]
      refine compE (r.map D.int) ?_ (by rw [List.length_map]; omega) ?_
      · unfold iWalk
        rw [binE (x := .lst (R2.map tupI)) (y := .int i) (z := some (tupI r)) rfl rfl (atP_get (by rw [List.getElem?_map, hr]; rfl))]
        rfl
      · refine comp_mapE D.int (fun a => .int (at0 word a)) _ fun a ha => ⟨[some (.int a), some (lstI word)], rfl, ?_⟩
        have ar := ra a ha
        obtain ⟨an, ea⟩ : ∃ an : Nat, a = (an : Int) := ⟨a.toNat, by omega⟩
        subst ea
        refine binE (x := lstI word) (y := .int an) rfl rfl (ints_at ?_)
        rw [at0_nat, List.getElem?_eq_getElem (by omega)]
        rfl
    · rintro _ ⟨F, v7, h3, h4, rfl⟩
      exact rt_ret (ordD F) (cb1E (x := .lst (F.map tupI)) rfl tupleM_lst) ⟨F, by omega, h4, rfl⟩
  obtain ⟨d, e, y, h1, h2, rfl⟩ := main
  exact ⟨y, h1, h2, e⟩
end
noncomputable def M1 : List (List Int) := [[3, 2, 2], [5, 4], [6, 3], [4, 1, 1, 1], [2, 2, 2], [3, 3, 1], [5, 2, 1], [6, 2, 1], [4, 3, 1]]
noncomputable def M2 : List (List Int) := M1 ++ [[7, 1, 1], [3, 3, 2], [3, 2, 1, 1], [5, 1, 1], [2, 2, 1, 1], [7, 2], [4, 2, 1]]
theorem M2_in : ∀ z ∈ M2, (0 ≤ z.sum ∧ z.sum ≤ 9) ∧ ∀ c ∈ z, 0 ≤ c := by decide
theorem law_true (ns : List Int) (hns : ns.length ≤ 63) : f_law [.scr ns] = .ok (.bl true) := by
  unfold f_law
  obtain ⟨c1, ec1⟩ := cell_ok ns 2
  obtain ⟨xs, hx, hxn, ex⟩ := draws_ok c1 2 300007 (by decide) (by decide)
  obtain ⟨a, b, rfl⟩ : ∃ a b, xs = [a, b] := by
    match xs, hx with
    | [a, b], _ => exact ⟨a, b, rfl⟩
  obtain ⟨_, ed, rows, hrl, hR, rfl⟩ := drawn_ok ns 0 6 100003 (by decide) (by decide)
  obtain ⟨c3, ec3⟩ := cell_ok ns 3
  obtain ⟨dr, hdr, hdn, ey⟩ := draws_ok c3 9 400009 (by decide) (by decide)
  have hdl : dr.length = 9 := hdr
  obtain ⟨y2, hy1, hy2, ey2⟩ := two_hundred_ok hdl
  refine run_eq rfl ?_
  refine rt_seqE [.ro (.scr ns), .ro (lstI [a, b]), .no, .no, .no, .no, .no, .no] (setE (lstI [a, b]) (call3E (call2E rfl rfl ec1) rfl rfl ex) rfl) ?_
  refine rt_seqE [.ro (.scr ns), .ro (lstI [a, b]), .ro (ordD rows), .no, .no, .no, .no, .no] (setE (ordD rows) (call4E rfl rfl rfl rfl ed) rfl) ?_
  refine rt_seq (fun ρ => ∃ (x : List (List Int)) (v3 v4 : Sv), x.length ≤ 9 ∧ (∀ r ∈ x, r.length ≤ 9) ∧ ρ = [.ro (.scr ns), .ro (lstI [a, b]), .ro (ordD x), v3, v4, .no, .no, .no]) ?_ ?_
  · refine nx_if (decide (a % 3 = 1)) (tvE (d := .bl (decide (a % 3 = 1))) (binE (x := .int (a % 3)) (y := .int 1) (binE (x := .int a) (y := .int 3) (binE (x := lstI [a, b]) (y := .int 0) rfl rfl (atP_get (k := 0) rfl)) rfl (modM_int (by decide))) rfl rfl) rfl) (fun _ => ?_) fun _ => nx_end ⟨rows, .no, .no, by omega, short9 hR (by omega), rfl⟩
    refine nx_seqE [.ro (.scr ns), .ro (lstI [a, b]), .ro (ordD rows), .ro (.lst (M1.map tupI)), .no, .no, .no, .no] rfl ?_
    refine nx_seqE [.ro (.scr ns), .ro (lstI [a, b]), .ro (ordD rows), .ro (.lst (M2.map tupI)), .no, .no, .no, .no] rfl ?_
    refine nx_seqE [.ro (.scr ns), .ro (lstI [a, b]), .ro (ordD rows), .ro (.lst (M2.map tupI)), .ro (lstI dr), .no, .no, .no] (setE (lstI dr) (call3E (call2E rfl rfl ec3) rfl rfl ey) rfl) ?_
    refine nx_seqE [.ro (.scr ns), .ro (lstI [a, b]), .ro (ordD y2), .ro (.lst (M2.map tupI)), .ro (lstI dr), .no, .no, .no] (setE (ordD y2) (call1E rfl ey2) rfl) ?_
    have eb : eBin modM (eBin ixM (eVar 1) (eC (.int 1))) (eC (.int 18)) [some (.scr ns), some (lstI [a, b]), some (ordD y2), some (.lst (M2.map tupI)), some (lstI dr), none, none, none] = some (.int (b % 18)) := binE (x := .int b) (y := .int 18) (binE (x := lstI [a, b]) (y := .int 1) rfl rfl (atP_get (k := 1) rfl)) rfl (modM_int (by decide))
    refine nx_if (decide (b % 18 < 16)) (tvE (d := .bl (decide (b % 18 < 16))) (binE (x := .int (b % 18)) (y := .int 16) eb rfl rfl) rfl) (fun hb => ?_) fun _ => nx_end ⟨y2, _, _, hy1, hy2, rfl⟩
    have hb := of_decide_eq_true hb
    obtain ⟨k, ek, hk⟩ : ∃ k : Nat, b % 18 = (k : Int) ∧ k < 16 := ⟨(b % 18).toNat, by omega, by omega⟩
    obtain ⟨z, hz⟩ : ∃ z, M2[k]? = some z := ⟨_, List.getElem?_eq_getElem (by show k < 16; omega)⟩
    obtain ⟨⟨q1, q2⟩, q3⟩ := M2_in z (List.mem_of_getElem? hz)
    obtain ⟨y, g1, g2, ey⟩ := chains_ok (dr := dr) (n := z.sum.toNat) q3 (by omega) (by omega) hdl
    refine nx_set (ordD y) (call2E (x := tupI z) (y := lstI dr) (binE (x := .lst (M2.map tupI)) (y := .int k) rfl (by rw [← ek]; exact eb) (atP_get (by rw [List.getElem?_map, hz]; rfl))) rfl ey) ⟨y, _, _, g1, g2, rfl⟩
  rintro _ ⟨x, v3, v4, hx9, hr9, rfl⟩
  have hg := goings9 hx9 hr9
  have hlen : ((gls x x.length).length : Int) = (shares x).sum := gls_len
  have h9 := gls_9 (i := x.length) hx9 hx9
  refine rt_seqE [.ro (.scr ns), .ro (lstI [a, b]), .ro (ordD x), v3, v4, .ro (.tup ((gls x x.length).map tupI)), .no, .no] (setE (.tup ((gls x x.length).map tupI)) (cb1E (call1E rfl hg) tupleM_lst) rfl) ?_
  refine rt_seqE [.ro (.scr ns), .ro (lstI [a, b]), .ro (ordD x), v3, v4, .ro (.tup ((gls x x.length).map tupI)), .ro (.tup [.str "told", .tup ((gls x x.length).map tupI)]), .no] rfl ?_
  have elen : ∀ {v6 v7 : Sv}, eCB lenM (aCons (eVar 5) aNil) (vAll [.ro (.scr ns), .ro (lstI [a, b]), .ro (ordD x), v3, v4, .ro (.tup ((gls x x.length).map tupI)), v6, v7]) = some (.int (shares x).sum) := fun {v6 v7} => cb1E (x := .tup ((gls x x.length).map tupI)) rfl (by rw [lenM_tup, List.length_map, hlen])
  have fin : ∀ due : D, plainD 6 due → f_l_asked [ordD x] = .ok due → Rt (sSeq (sFor (iRange (aCons (eC (.int 2)) aNil)) (gN1 7)
      (sIf (tOr (tNot (tV (eCall (LL.f_l_same 6) (aCons (eCall (L7.waysR LL.rdI) (aCons (eVar 2) aNil)) (aCons (eCB lenM (aCons (eVar 5) aNil)) aNil))))) (tNot (tV (eCall (LL.f_l_same 6) (aCons (eCall f_l_asked (aCons (eVar 2) aNil)) (aCons (eVar 6) aNil))))))
        (sRet (eC (.bl false)))
        sEnd))
    (sRet (eC (.bl true))) [.ro (.scr ns), .ro (lstI [a, b]), .ro (ordD x), v3, v4, .ro (.tup ((gls x x.length).map tupI)), .ro due, .no]) fun d => d = .bl true := by
    intro due hp ha
    refine rt_seq (fun _ => True) ?_ fun ρ _ => rt_ret (.bl true) rfl rfl
    refine nx_rng 2 (fun _ ρ => ∃ v7, ρ = [.ro (.scr ns), .ro (lstI [a, b]), .ro (ordD x), v3, v4, .ro (.tup ((gls x x.length).map tupI)), .ro due, v7]) rfl (by omega) ⟨.no, rfl⟩ (fun i ρ hi ⟨v7, e⟩ => ?_) fun _ _ => trivial
    subst e
    refine ⟨[.ro (.scr ns), .ro (lstI [a, b]), .ro (ordD x), v3, v4, .ro (.tup ((gls x x.length).map tupI)), .ro due, .ro (.int i)], rfl, ?_⟩
    refine nx_if false (torE (b := false) (tnE (b := true) (tvE (d := .bl true) (call2E (x := .int (shares x).sum) (y := .int (shares x).sum) (call1E rfl (many_ok hx9 hr9)) elen (same_refl 6 _ trivial)) rfl) rfl) (fun _ => tnE (b := true) (tvE (d := .bl true) (call2E (x := due) (y := due) (call1E rfl ha) rfl (same_refl 6 due hp)) rfl) rfl) fun h => by cases h) (fun h => by cases h) fun _ => nx_end ⟨_, rfl⟩
  by_cases h : 200 < (shares x).sum
  · refine rt_seqE [.ro (.scr ns), .ro (lstI [a, b]), .ro (ordD x), v3, v4, .ro (.tup ((gls x x.length).map tupI)), .ro (.tup [.str "refused", .str "TooGreat"]), .no] (ifT (tvE (d := .bl true) (binE (x := .int (shares x).sum) (y := .int 200) elen rfl (by rw [gt200, decide_eq_true h])) rfl) rfl) ?_
    exact fin _ ⟨by decide, fun d hd => by
      rcases List.mem_cons.1 hd with rfl | hd
      · trivial
      · rw [List.mem_singleton.1 hd]; trivial⟩ (asked_ex hx9 hr9 h)
  · refine rt_seqE [.ro (.scr ns), .ro (lstI [a, b]), .ro (ordD x), v3, v4, .ro (.tup ((gls x x.length).map tupI)), .ro (.tup [.str "told", .tup ((gls x x.length).map tupI)]), .no] (ifF (tvE (d := .bl false) (binE (x := .int (shares x).sum) (y := .int 200) elen rfl (by rw [gt200, decide_eq_false h])) rfl) rfl) ?_
    exact fin _ ⟨by show 2 ≤ 1000000; decide, fun d hd => by
      rcases List.mem_cons.1 hd with rfl | hd
      · trivial
      · rw [List.mem_singleton.1 hd]
        exact plain_ordD (n := 2) (by omega) fun r hr => by have := gls_in _ r hr; omega⟩ (asked_ok hx9 hr9 h)
end K10
end
section
-- CHANGE: your row's module here, as the last of these rows
set_option Elab.async false
set_option linter.all false
set_option maxRecDepth 100000
namespace L2
open PySem PySem.Spec PyProof.Rows
noncomputable abbrev Key := Sum Int Str
noncomputable def keyIs : Key → Value → Bool
  | .inl k, v => Value.isInt k v
  | .inr x, v => Value.isStrOf x v
noncomputable def keyH (w : World) : Key → Int
  | .inl k => hashInt k
  | .inr x => hashStr w x
theorem keyIs_shape : ∀ {k : Key} {v : Value}, keyIs k v = true → (∃ i t, k = Sum.inl i ∧ v = Value.int i t) ∨ (∃ x t, k = Sum.inr x ∧ v = Value.str x t)
  | .inl i, v, h => by
    obtain ⟨t, e⟩ := Value.isInt_shape (k := i) (v := v) h
    exact .inl ⟨i, t, rfl, e⟩
  | .inr x, v, h => by
    obtain ⟨t, e⟩ := Value.isStrOf_shape (x := x) (v := v) h
    exact .inr ⟨x, t, rfl, e⟩
theorem keyIs_int (i : Int) (t : Tok) : keyIs (.inl i) (.int i t) = true := by simp [keyIs, Value.isInt]
theorem keyIs_str (x : Str) (t : Tok) : keyIs (.inr x) (.str x t) = true := by simp [keyIs, Value.isStrOf]
theorem key_ll (a b : Int) : decide ((Sum.inl a : Key) = Sum.inl b) = (a == b) := by
  by_cases e : a = b
  · subst e; simp
  · have h : ¬ (Sum.inl a : Key) = Sum.inl b := fun q => e (Sum.inl.inj q)
    rw [decide_eq_false h]
    exact (beq_eq_false_iff_ne.mpr e).symm
theorem key_rr (a b : Str) : decide ((Sum.inr a : Key) = Sum.inr b) = decide (a = b) := by
  by_cases e : a = b
  · subst e; simp
  · have h : ¬ (Sum.inr a : Key) = Sum.inr b := fun q => e (Sum.inr.inj q)
    rw [decide_eq_false h, decide_eq_false e]
theorem key_lr (a : Int) (b : Str) : decide ((Sum.inl a : Key) = Sum.inr b) = false := decide_eq_false (fun q => nomatch q)
theorem key_rl (a : Str) (b : Int) : decide ((Sum.inr a : Key) = Sum.inl b) = false := decide_eq_false (fun q => nomatch q)
noncomputable def mixKind (prog : Program) (w : World) : PySem.KeyKind prog w Key where
  is := keyIs
  hash := keyH w
  inj := fun v a b ha hb => by
    rcases keyIs_shape ha with ⟨i, t, rfl, rfl⟩ | ⟨x, t, rfl, rfl⟩
    · rcases keyIs_shape hb with ⟨j, u, rfl, e⟩ | ⟨y, u, rfl, e⟩
      · injection e with e1 _; rw [e1]
      · exact nomatch e
    · rcases keyIs_shape hb with ⟨j, u, rfl, e⟩ | ⟨y, u, rfl, e⟩
      · exact nomatch e
      · injection e with e1 _; rw [e1]
  byValue := fun k v h => by
    rcases keyIs_shape h with ⟨i, t, rfl, rfl⟩ | ⟨x, t, rfl, rfl⟩ <;> rfl
  pyHash := fun hv h => by
    rcases keyIs_shape hv with ⟨i, t, rfl, rfl⟩ | ⟨x, t, rfl, rfl⟩
    · exact wpAny_pyHash_int h
    · exact wpAny_pyHash_str h
  eqBool := fun hu hv h => by
    rcases keyIs_shape hu with ⟨i, t, rfl, rfl⟩ | ⟨x, t, rfl, rfl⟩
    · rcases keyIs_shape hv with ⟨j, u, rfl, rfl⟩ | ⟨y, u, rfl, rfl⟩
      · rw [key_ll] at h; exact wpAny_eqBool_int h
      · rw [key_lr] at h; exact SeqAt.EqAt.int_str i t y u _ _ _ _ h
    · rcases keyIs_shape hv with ⟨j, u, rfl, rfl⟩ | ⟨y, u, rfl, rfl⟩
      · rw [key_rl] at h; exact SeqAt.EqAt.str_int x t j u _ _ _ _ h
      · rw [key_rr] at h; exact wpAny_eqBool_str h
  «strs» := fun k x t v h => by
    rcases keyIs_shape h with ⟨i, u, rfl, e⟩ | ⟨y, u, rfl, e⟩
    · exact nomatch e
    · injection e with e1 _
      subst e1
      cases v <;> rfl
theorem mixKind_int (prog : Program) (w : World) (i : Int) (t : Tok) : (mixKind prog w).is (.inl i) (.int i t) = true := keyIs_int i t
theorem mixKind_str (prog : Program) (w : World) (x : Str) (t : Tok) : (mixKind prog w).is (.inr x) (.str x t) = true := keyIs_str x t
end L2
namespace L2
open PySem PySem.Spec PyProof.Rows
noncomputable abbrev N1 := List (Sum Key (List Key))
noncomputable abbrev KX := Sum Key N1
section
variable {prog : Program} {w : World} {K : Type} [dK : DecidableEq K] (knd : KeyKind prog w K)
noncomputable def ItemIs (h : Heap) : Sum K (List K) → Value → Prop
  | .inl k, v => knd.is k v = true
  | .inr ks, v => ∃ b, v = .ref b ∧ IsTupleKey knd h ks b
inductive NItems (h : Heap) : List (Sum K (List K)) → List Value → Prop
  | nil : NItems h [] []
  | cons {k : Sum K (List K)} {v : Value} {ks : List (Sum K (List K))} {vs : List Value} : ItemIs knd h k v → NItems h ks vs → NItems h (k :: ks) (v :: vs)
noncomputable def IsNest (h : Heap) (ks : List (Sum K (List K))) (a : Addr) : Prop := ∃ o items n, h.get? a = some o ∧ o.cls = .type "tuple" ∧ o.data = .seq items n ∧ NItems knd h ks items.toList
variable {knd}
theorem ItemIs.inj {h : Heap} {v : Value} : ∀ {x y : Sum K (List K)}, ItemIs knd h x v → ItemIs knd h y v → x = y
  | .inl a, .inl b, hx, hy => by rw [knd.inj _ _ _ hx hy]
  | .inl a, .inr b, hx, ⟨q, e, _⟩ => by subst e; exact absurd (knd.byValue _ _ hx) (by simp [carriedByValue])
  | .inr a, .inl b, ⟨q, e, _⟩, hy => by subst e; exact absurd (knd.byValue _ _ hy) (by simp [carriedByValue])
  | .inr a, .inr b, ⟨q, e, hx⟩, ⟨r, f, hy⟩ => by
    subst e
    injection f with f
    subst f
    rw [hx.inj hy]
theorem NItems.inj {h : Heap} {x : List (Sum K (List K))} {vs : List Value} (hx : NItems knd h x vs) : ∀ {y}, NItems knd h y vs → x = y := by
  induction hx with
  | nil => intro y hy; cases hy; rfl
  | cons h1 _ ih =>
    intro y hy
    cases hy with
    | cons h2 t2 => rw [h1.inj h2, ih t2]
theorem IsNest.typeIs {s : Shared} {ks : List (Sum K (List K))} {a : Addr} (x : IsNest knd s.heap ks a) : s.TypeIs (.ref a) "tuple" := let ⟨o, _, _, ho, hc, _⟩ := x; ⟨o, ho, hc⟩
theorem IsNest.inj {h : Heap} {a : Addr} {x y : List (Sum K (List K))} (hx : IsNest knd h x a) (hy : IsNest knd h y a) : x = y := by
  obtain ⟨o, its, n, ho, _, hd, hi⟩ := hx
  obtain ⟨o', its', n', ho', _, hd', hi'⟩ := hy
  rw [ho] at ho'
  cases ho'
  rw [hd] at hd'
  cases hd'
  exact hi.inj hi'
theorem IsNest.keeps {h h' : Heap} {ks : List (Sum K (List K))} {a d : Addr} {o : Obj} {es ep} (x : IsNest knd h ks a) (ho : h.get? d = some o) (hd : o.data = .dict es ep) (hs : Heap.SameBut d h h') : IsNest knd h' ks a := by
  obtain ⟨q, items, n, hq, hc, hi, his⟩ := x
  have ne : a ≠ d := fun z => by
    subst z
    rw [hq] at ho
    cases ho
    rw [hi] at hd
    cases hd
  refine ⟨q, items, n, (hs.2 a ne).trans hq, hc, hi, ?_⟩
  have go : ∀ {ks : List (Sum K (List K))} {vs : List Value}, NItems knd h ks vs → NItems knd h' ks vs := by
    intro ks vs t
    induction t with
    | nil => exact .nil
    | @cons k v ks vs h1 _ ih =>
      refine .cons ?_ ih
      cases k with
      | inl k => exact h1
      | inr k => obtain ⟨b, e, hb⟩ := h1; exact ⟨b, e, hb.keeps ho hd hs⟩
  exact go his
noncomputable def itemHash (knd : KeyKind prog w K) : Sum K (List K) → Int
  | .inl k => knd.hash k
  | .inr ks => tupleKeyHash knd ks
noncomputable def itemDraws : Sum K (List K) → Nat
  | .inl _ => 1
  | .inr ks => ks.length + 1
noncomputable def nestHash (knd : KeyKind prog w K) (ks : List (Sum K (List K))) : Int := reduceHash (Builtin.Tuple.tupleHashOf (ks.map (itemHash knd)))
noncomputable def nestDraws (ks : List (Sum K (List K))) : Nat := (ks.map itemDraws).sum + 1
variable {s : Shared} {A : Around} {E : Value → Shared → Prop}
theorem item_hash {k : Sum K (List K)} {v : Value} {Q : Int → Shared → Prop} (hu : A.units < cLine) (hk : ItemIs knd s.heap k v) (h : Q (itemHash knd k) { s with toks := s.toks + itemDraws k }) : wpAny (model prog w) A (pyHash v) Q E s := by
  cases k with
  | inl k => exact knd.pyHash hk h
  | inr k =>
    obtain ⟨b, e, hb⟩ := hk
    subst e
    exact wpAny_pyHash_tuple hu hb h
theorem isTuple_of {ks : List K} {b : Addr} {h : Heap} (x : IsTupleKey knd h ks b) : ∃ items, h.IsTuple b items := by
  obtain ⟨o, items, n, ho, hc, hd, _⟩ := x
  exact ⟨items, o, ho, hc, n, hd⟩
end
section
variable {P : Program} {w : World} {A : Around} {E : Value → Shared → Prop} {s : Shared}
theorem item_eq {x y : Sum Key (List Key)} {u v : Value} {Q : Bool → Shared → Prop} (hu : A.units < cLine) (hx : ItemIs (mixKind P w) s.heap x u) (hy : ItemIs (mixKind P w) s.heap y v) (h : Q (decide (x = y)) s) : wpAny (model P w) A (eqBool u v) Q E s := by
  cases x with
  | inl x =>
    cases y with
    | inl y =>
      refine (mixKind P w).eqBool hx hy ?_
      rw [show decide (x = y) = decide ((Sum.inl x : Sum Key (List Key)) = Sum.inl y) by simp]
      exact h
    | inr y =>
      obtain ⟨b, e, hb⟩ := hy
      subst e
      obtain ⟨its, hb⟩ := isTuple_of hb
      rw [show decide ((Sum.inl x : Sum Key (List Key)) = Sum.inr y) = false by simp] at h
      rcases keyIs_shape hx with ⟨i, t, rfl, rfl⟩ | ⟨i, t, rfl, rfl⟩
      · exact SeqAt.EqAt.int_tuple i t hb hu P w E Q h
      · exact SeqAt.EqAt.str_tuple i t hb hu P w E Q h
  | inr x =>
    obtain ⟨a, e, ha⟩ := hx
    subst e
    cases y with
    | inl y =>
      obtain ⟨its, ha⟩ := isTuple_of ha
      rw [show decide ((Sum.inr x : Sum Key (List Key)) = Sum.inl y) = false by simp] at h
      rcases keyIs_shape hy with ⟨i, t, rfl, rfl⟩ | ⟨i, t, rfl, rfl⟩
      · exact SeqAt.EqAt.tuple_int i t ha hu P w E Q h
      · exact SeqAt.EqAt.tuple_str i t ha hu P w E Q h
    | inr y =>
      obtain ⟨b, e, hb⟩ := hy
      subst e
      refine wpAny_eqBool_tuple hu ha hb ?_
      rw [show decide (x = y) = decide ((Sum.inr x : Sum Key (List Key)) = Sum.inr y) by simp]
      exact h
theorem hash_loop : ∀ (rest : List Value) (left : List (Sum Key (List Key))) (b : Array Int) (s : Shared) (R : Array Int → Shared → Prop), A.units < cLine → NItems (mixKind P w) s.heap left rest →
    (∀ b' : Array Int, b'.toList = b.toList ++ left.map (itemHash (mixKind P w)) → R b' { s with toks := s.toks + (left.map itemDraws).sum }) →
    wpAny (model P w) A (forIn rest b fun x r => do
      let r' ← pyHash x
      pure (ForInStep.yield (r.push r'))) R E s
  | [], left, b, s, R, hu, t, k => by
    cases t
    exact wpAny_pure (k b (by simp))
  | v :: rest, left, b, s, R, hu, t, k => by
    cases t with
    | @cons kk _ ks _ h1 h2 =>
      rw [List.forIn_cons]
      refine wpAny_bind (wpAny_bind (item_hash hu h1 (wpAny_pure ?_)))
      refine hash_loop rest ks _ _ _ hu h2 fun b' e => ?_
      have := k b' (by rw [e]; simp)
      simpa [Nat.add_assoc] using this
theorem nest_hash {ks : List (Sum Key (List Key))} {a : Addr} {Q : Int → Shared → Prop} (hu : A.units + 1 < cLine) (hk : IsNest (mixKind P w) s.heap ks a) (h : Q (nestHash (mixKind P w) ks) { s with toks := s.toks + nestDraws ks }) : wpAny (model P w) A (pyHash (.ref a)) Q E s := by
  have hT := hk.typeIs
  obtain ⟨o, its, n, ho, _, hd, hi⟩ := hk
  have sl := F.slot_tuple_hash
  unfold pyHash pyHashByItsType
  wp_walk using wpAny_cRoomFor_or (.inr (by omega)), wpAny_specialOf hT sl.lookup, (wpAny_callSpecialIfBoundUnlessNone?_slot hT sl (wpAny_call_entry sl hT F.entry_tuple_hash ?_ (F.args_tuple_hash_1 _)))
  rw [hd]
  refine wpAny_pure (wpAny_pure (wpAny_bind ?_))
  rw [← Array.forIn_toList]
  refine hash_loop its.toList ks #[] s _ hu hi fun b eb => ?_
  dsimp only
  rw [eb, List.nil_append]
  unfold nestHash reduceHash at h
  refine wpAny_ret_mkInt ?_
  have e2 : s.toks + (ks.map itemDraws).sum + 1 = s.toks + nestDraws ks := by unfold nestDraws; omega
  show wpAny (model P w) A (pyHashByItsType.reduced _) Q E { s with toks := s.toks + (ks.map itemDraws).sum + 1 }
  rw [e2]
  unfold pyHashByItsType.reduced
  generalize Builtin.Tuple.tupleHashOf (ks.map (itemHash (mixKind P w))) = z at h ⊢
  by_cases hz : (decide (-(2 ^ 63 : Int) ≤ z) && decide (z < 2 ^ 63)) = true
  · rw [if_pos hz] at h ⊢
    exact wpAny_pure h
  · rw [if_neg hz] at h ⊢
    refine wpAny_bind (wpAny_rule ?_); exact wpAny_pure h
theorem eq_loop : ∀ (x y : List (Sum Key (List Key))) (xs ys : List Value) (R : Option Fin × Unit → Shared → Prop), A.units < cLine → NItems (mixKind P w) s.heap x xs → NItems (mixKind P w) s.heap y ys →
    (x ≠ y → R (some (.done (.ret (.bool false))), ()) s) → ((x = y ↔ xs.length = ys.length) → R (none, ()) s) →
    wpAny (model P w) A (forIn (xs.zip ys) ((none, ()) : Option Fin × Unit) fun p _ => do
      let c ← eqBool p.1 p.2
      if (!c) = true then do
        let q ← ret (Value.bool false)
        pure (ForInStep.done (some q, ()))
      else pure (ForInStep.yield (none, ()))) R E s
  | [], y, xs, ys, R, hu, hx, hy, k1, k2 => by
    cases hx
    refine wpAny_pure (k2 ?_)
    cases hy <;> simp
  | kx :: x, [], xs, ys, R, hu, hx, hy, k1, k2 => by
    cases hx
    cases hy
    exact wpAny_pure (k2 (by simp))
  | kx :: x, ky :: y, xs, ys, R, hu, hx, hy, k1, k2 => by
    cases hx with
    | @cons _ u _ xs hx1 hx2 =>
      cases hy with
      | @cons _ v _ ys hy1 hy2 =>
        rw [List.zip_cons_cons, List.forIn_cons]
        refine wpAny_bind (wpAny_bind (item_eq hu hx1 hy1 ?_))
        by_cases hk : kx = ky
        · subst hk
          rw [decide_eq_true rfl, if_neg (by decide)]
          refine wpAny_pure (eq_loop x y xs ys R hu hx2 hy2 (fun n => k1 (by simpa using n)) fun e => k2 ?_)
          simpa using e
        · rw [decide_eq_false hk, if_pos (by decide)]
          exact wpAny_bind (wpAny_pure (wpAny_pure (wpAny_pure (k1 (by simp [hk])))))
theorem nest_eq {x y : List (Sum Key (List Key))} {a b : Addr} {Q : Bool → Shared → Prop} (hu : A.units + 1 < cLine) (hx : IsNest (mixKind P w) s.heap x a) (hy : IsNest (mixKind P w) s.heap y b) (h : Q (decide (x = y)) s) : wpAny (model P w) A (eqBool (.ref a) (.ref b)) Q E s := by
  have tx := hx.typeIs
  have ty := hy.typeIs
  have sl := F.slot_tuple_eq
  by_cases hab : a = b
  · subst hab
    rw [hx.inj hy, decide_eq_true rfl] at h
    exact SeqAt.EqAt.same _ P w E Q h
  · obtain ⟨oa, xs, na, hoa, _, hda, hia⟩ := hx
    obtain ⟨oc, ys, nb, hob, _, hdb, hib⟩ := hy
    unfold eqBool
    rw [if_neg (by simpa using hab)]
    have hu0 : A.units < cLine := by omega
    apply wpAny_holding; apply wpAny_bind
    refine (wpAny_richCompare_same_room (op := .Eq) tx ty sl (wpAny_call_entry sl tx F.entry_tuple_eq ?_ (F.args_tuple_eq_2 _ _)) hu0)
    unfold Builtin.«tuple.__eq__»
    wp_walk using wpAny_isInstance ty isSubtype_tuple_tuple, wpAny_tupleItemsOf hoa hda, wpAny_tupleItemsOf hob hdb
    refine eq_loop x y xs.toList ys.toList _ hu hia hib (fun n => ?_) fun e => ?_
    · rw [decide_eq_false n] at h
      exact wpAny_pure ⟨_, rfl, (fun z => nomatch z), wpAny_truthy_bool h⟩
    · refine wpAny_pure ⟨_, rfl, (fun z => nomatch z), ?_⟩
      have e2 : (xs.size == ys.size) = decide (x = y) := by
        by_cases q : x = y
        · rw [decide_eq_true q]; simpa using e.1 q
        · rw [decide_eq_false q]; simpa using fun z => q (e.2 z)
      show wpAny (model P w) A (truthOfDropped (.bool (xs.size == ys.size))) Q E s
      rw [e2]
      exact wpAny_truthy_bool h
theorem quiet_loop {d : Nat} : ∀ (vs : List Value) (R : Option Bool × Unit → Shared → Prop), (∀ v ∈ vs, ∀ Q : Bool → Shared → Prop, Q true s → wpAny (model P w) A (eqIsQuiet d v) Q E s) → R (none, ()) s →
    wpAny (model P w) A (forIn vs ((none, ()) : Option Bool × Unit) fun y _ => do
      let c ← eqIsQuiet d y
      if (!c) = true then pure (ForInStep.done (some false, ()))
      else pure (ForInStep.yield (none, ()))) R E s
  | [], R, hq, k => wpAny_pure k
  | v :: vs, R, hq, k => by
    rw [List.forIn_cons]
    refine wpAny_bind (wpAny_bind (hq v List.mem_cons_self _ ?_))
    rw [if_neg (by decide)]
    exact wpAny_pure (quiet_loop vs R (fun u hu => hq u (List.mem_cons_of_mem _ hu)) k)
theorem quiet_seq {d : Nat} {a : Addr} {o : Obj} {xs : Array Value} {n : Nat} {Q : Bool → Shared → Prop} (tx : s.TypeIs (Value.ref a) "tuple") (ho : s.heap.get? a = some o) (hd : o.data = .seq xs n) (hq : ∀ v ∈ xs.toList, ∀ Q : Bool → Shared → Prop, Q true s → wpAny (model P w) A (eqIsQuiet d v) Q E s) (h : Q true s) :
    wpAny (model P w) A (eqIsQuiet (d + 1) (.ref a)) Q E s := by
  have sl := F.slot_tuple_eq
  unfold eqIsQuiet
  refine wpAny_bind (wpAny_specialOf tx sl.lookup ?_)
  show wpAny (model P w) A (isInstance (.ref a) (.type "tuple") >>= _) _ _ s
  refine wpAny_bind (wpAny_isInstance tx isSubtype_tuple_tuple ?_)
  rw [if_neg (by decide)]
  dsimp only
  refine wpAny_bind (wpAny_seqItems ho hd (wpAny_bind ?_))
  show wpAny _ _ (forIn xs _ _) _ _ s
  rw [← Array.forIn_toList]
  exact quiet_loop xs.toList _ hq (wpAny_pure h)
theorem nest_quiet {x : List (Sum Key (List Key))} {a : Addr} {Q : Bool → Shared → Prop} (hx : IsNest (mixKind P w) s.heap x a) (h : Q true s) : wpAny (model P w) A (eqIsQuiet 8 (.ref a)) Q E s := by
  have tx := hx.typeIs
  obtain ⟨o, xs, n, ho, _, hd, hi⟩ := hx
  refine quiet_seq (d := 7) tx ho hd ?_ h
  have go : ∀ {ks : List (Sum Key (List Key))} {vs : List Value}, NItems (mixKind P w) s.heap ks vs → ∀ v ∈ vs, ∀ Q : Bool → Shared → Prop, Q true s → wpAny (model P w) A (eqIsQuiet 7 v) Q E s := by
    intro ks vs t
    induction t with
    | nil => intro v hv; cases hv
    | @cons k v ks vs h1 _ ih =>
      intro u hu Q k0
      rcases List.mem_cons.1 hu with e | hu
      · subst e
        cases k with
        | inl k =>
          rw [eqIsQuiet_byValue _ ((mixKind P w).byValue _ _ h1)]
          exact wpAny_pure k0
        | inr k =>
          obtain ⟨b, e, hb⟩ := h1
          subst e
          have tb := hb.typeIs
          obtain ⟨o', xs', n', ho', _, hd', hi'⟩ := hb
          refine quiet_seq (d := 6) tb ho' hd' (fun v' hv' Q' k' => ?_) k0
          rw [eqIsQuiet_byValue _ (hi'.byValue v' hv')]
          exact wpAny_pure k'
      · exact ih u hu Q k0
  exact go hi
noncomputable def nestKind (P : Program) (w : World) : HeapKind P w (List (Sum Key (List Key))) where
  is := IsNest (mixKind P w)
  hash := nestHash (mixKind P w)
  draws := nestDraws
  room := fun A => A.units + 1 < cLine
  inj := fun hx hy => hx.inj hy
  keeps := fun x ho he hs => x.keeps ho he hs
  pyHash := fun hu hk h => nest_hash hu hk h
  eqBool := fun hu hx hy h => nest_eq hu hx hy h
  quiet := fun hk h => nest_quiet hk h
end
end L2
namespace L2
open PySem PySem.Spec PyProof.Rows
inductive V where
  | non | bl (b : Bool) | int (i : Int) | str (x : Str) | byt (b : Array UInt8) | flt (b : UInt64) | ref (a : Addr) | ty (n : String)
  deriving DecidableEq
noncomputable def RelV : V → Value → Prop
  | .non, u => u = Value.none
  | .bl b, u => u = Value.bool b
  | .int i, u => ∃ t, u = Value.int i t
  | .str x, u => ∃ t, u = Value.str x t
  | .byt b, u => ∃ t, u = Value.bytes b t
  | .flt b, u => ∃ t, u = Value.float b t
  | .ref a, u => u = Value.ref a
  | .ty n, u => u = Value.type n
noncomputable abbrev Vals : List V → List Value → Prop := Paired RelV
theorem Vals.length {xs : List V} {us : List Value} (r : Vals xs us) : xs.length = us.length := Paired.length r
theorem Vals.get : ∀ {xs : List V} {us : List Value} {i : Nat} {x : V}, Vals xs us → xs[i]? = some x → ∃ u, us[i]? = some u ∧ RelV x u
  | _, _, _, _, .nil, e => by simp at e
  | _, _, 0, _, .cons r _, e => by simp at e; subst e; exact ⟨_, rfl, r⟩
  | _, _, i + 1, x, .cons _ t, e => by
    obtain ⟨u, h1, h2⟩ := Vals.get (i := i) (x := x) t (by simpa using e)
    exact ⟨u, by simpa using h1, h2⟩
theorem Vals.set {x : V} {u : Value} (r : RelV x u) : ∀ {xs : List V} {us : List Value} (i : Nat), Vals xs us → Vals (xs.set i x) (us.set i u)
  | _, _, _, .nil => .nil
  | _, _, 0, .cons _ t => .cons r t
  | _, _, i + 1, .cons q t => .cons q (Vals.set r i t)
theorem Vals.append : ∀ {xs ys : List V} {us ws : List Value}, Vals xs us → Vals ys ws → Vals (xs ++ ys) (us ++ ws)
  | _, _, _, _, .nil, s => s
  | _, _, _, _, .cons r t, s => .cons r (Vals.append t s)
theorem Vals.take : ∀ {xs : List V} {us : List Value} (n : Nat), Vals xs us → Vals (xs.take n) (us.take n)
  | _, _, 0, _ => .nil
  | _, _, _ + 1, .nil => .nil
  | _, _, n + 1, .cons r t => .cons r (Vals.take n t)
noncomputable def RelO : Option V → Option Value → Prop
  | some v, some u => RelV v u
  | none, none => True
  | _, _ => False
noncomputable def KV {κ : Type} : List (κ × V) → List (κ × Value) → Prop := Paired fun (p : κ × V) (q : κ × Value) => p.1 = q.1 ∧ RelV p.2 q.2
noncomputable def kV : Key → V
  | .inl i => .int i
  | .inr x => .str x
inductive HO where
  | lst (xs : List V)
  | tup (xs : List V)
  | dK (kvs : List (Key × V)) | dT (kvs : List (List Key × V))
  | dX (o : Obj) (kvs : List (KX × V × V))
  | set (S : Int → Bool) (n : Nat)
  | ins (C dx : Addr) (fs : List (Str × V))
  | own (x : Addr)
  | xd (fs : List (Str × V))
  | met (f x : Addr)
  | rng (lo hi : Int)
  | frz (o : Obj) (u : HO)
  | tbl (ps : Array Value)
  | ext (φ : Heap → Prop)
noncomputable abbrev Hp := Addr → Option HO
noncomputable def upd (H : Hp) (a : Addr) (o : HO) : Hp := fun b => if b = a then some o else H b
theorem upd_same {H : Hp} {a : Addr} {o : HO} : upd H a o a = some o := by unfold upd; rw [if_pos rfl]
theorem upd_ne {H : Hp} {a b : Addr} {o : HO} (h : b ≠ a) : upd H a o b = H b := by unfold upd; rw [if_neg h]
theorem ne_of {H : Hp} {a b : Addr} {o u : HO} (h : H a = some o) (h' : H b = some u) (d : o ≠ u) : a ≠ b := by
  intro e; subst e; rw [h] at h'; exact d (Option.some.inj h')
theorem ne_of_none {H : Hp} {a b : Addr} {o : HO} (h : H a = some o) (h' : H b = none) : a ≠ b := by
  intro e; subst e; rw [h] at h'; cases h'
noncomputable def ItemAt (H : Hp) : Sum Key (List Key) → V → Prop
  | .inl k, v => v = kV k
  | .inr ks, v => ∃ b, v = .ref b ∧ H b = some (.tup (ks.map kV))
noncomputable def NestAt (H : Hp) (ks : N1) (a : Addr) : Prop := ∃ vs, H a = some (.tup vs) ∧ Paired (ItemAt H) ks vs
noncomputable def DXOk (P : Program) (w : World) (H : Hp) (o : Obj) (kvs : List (KX × V × V)) : Prop := o.ExactDict ∧ ∃ es ep, o.data = .dict es ep ∧
  ((∃ vs : List (Key × Value), Paired (fun (p : KX × V × V) (q : Key × Value) => p.1 = .inl q.1 ∧ p.2.1 = kV q.1 ∧ RelV p.2.2 q.2) kvs vs ∧ KeysOf (mixKind P w) es ∧ Pairs (mixKind P w) es.toList vs ∧ (vs.map (·.1)).Nodup) ∨
   ∃ xs : List (N1 × Addr × Value), Paired (fun (p : KX × V × V) (q : N1 × Addr × Value) => p.1 = .inr q.1 ∧ p.2.1 = .ref q.2.1 ∧ NestAt H q.1 q.2.1 ∧ RelV p.2.2 q.2.2) kvs xs ∧ es.toList = xs.map (entryOfKey (nestKind P w)) ∧ (xs.map (·.1)).Nodup)
theorem Paired.mapQ {α β : Type} {F G : α → β → Prop} : ∀ {l₁ : List α} {l₂ : List β}, Paired F l₁ l₂ → (∀ a b, F a b → G a b) → Paired G l₁ l₂
  | _, _, .nil, _ => .nil
  | _, _, .cons r t, f => .cons (f _ _ r) (Paired.mapQ t f)
theorem NestAt.stay {H H' : Hp} {ks : N1} {a : Addr} (h : NestAt H ks a) (ht : ∀ b xs, H b = some (.tup xs) → H' b = some (.tup xs)) : NestAt H' ks a := by
  obtain ⟨vs, e, r⟩ := h
  refine ⟨vs, ht _ _ e, Paired.mapQ r fun k v q => ?_⟩
  cases k with
  | inl k => exact q
  | inr k => obtain ⟨b, e, q⟩ := q; exact ⟨b, e, ht _ _ q⟩
theorem DXOk.stay {P : Program} {w : World} {H H' : Hp} {o : Obj} {kvs : List (KX × V × V)} (h : DXOk P w H o kvs) (ht : ∀ b xs, H b = some (.tup xs) → H' b = some (.tup xs)) : DXOk P w H' o kvs := by
  obtain ⟨x, es, ep, e, h⟩ := h
  refine ⟨x, es, ep, e, ?_⟩
  rcases h with h | ⟨xs, r, h1, h2⟩
  · exact .inl h
  · exact .inr ⟨xs, Paired.mapQ r fun p q z => ⟨z.1, z.2.1, z.2.2.1.stay ht, z.2.2.2⟩, h1, h2⟩
section
variable (P : Program) (w : World)
noncomputable def ObjOk (H : Hp) (h : Heap) (a : Addr) : HO → Prop
  | .lst xs => xs.length ≤ sizeLine ∧ ∃ (its : List Value) (n : Nat), Vals xs its ∧ h.get? a = some { cls := .type "list", data := .seq its.toArray n }
  | .tup xs => xs.length ≤ sizeLine ∧ ∃ its : List Value, Vals xs its ∧ IsTup h a its.toArray
  | .dK kvs => kvs.length ≤ sizeLine ∧ (a == sysModules) = false ∧ ∃ vs, KV kvs vs ∧ h.DictOf (mixKind P w) a vs
  | .dT kvs => kvs.length ≤ sizeLine ∧ (a == sysModules) = false ∧ ∃ xs : List (List Key × Addr × Value),
      Paired (fun (p : List Key × V) (q : List Key × Addr × Value) => p.1 = q.1 ∧ H q.2.1 = some (.tup (p.1.map kV)) ∧ RelV p.2 q.2.2) kvs xs ∧
      ∃ o es ep, h.get? a = some o ∧ o.ExactDict ∧ o.data = .dict es ep ∧ es.toList = xs.map (entryOfKey (tupleKind (mixKind P w))) ∧ (xs.map (·.1)).Nodup
  | .dX o kvs => kvs.length ≤ sizeLine ∧ (a == sysModules) = false ∧ h.get? a = some o ∧ DXOk P w H o kvs
  | .set S n => h.SetOf (intKind P w) a S n
  | .ins C dx fs => H dx = some (.own a) ∧ fs.length ≤ 1000 ∧ dx ≠ a ∧ h.get? a = some (PySem.W.instObj C dx) ∧
      ∃ mA, h.Ns1 dx mA ∧ (∀ f, RelO (fs.lookup f) (mA f)) ∧ PySem.Within mA (fs.map (·.1))
  | .own _ => ∃ o, h.get? a = some o
  | .xd fs => ∃ mA, h.Ns1 a mA ∧ ∀ f, RelO (fs.lookup f) (mA f)
  | .rng lo hi => ∃ t u v, h.get? a = some { cls := .type "range", data := .fields #[.int lo t, .int hi u, .int 1 v] }
  | .frz o u => h.get? a = some o ∧ ObjOk H h a u
  | .tbl ps => h.get? a = some { cls := .none, data := .fields ps }
  | .met f x => h.get? a = some (PySem.W.methodObj (.ref f) (.ref x))
  | .ext φ => φ h ∧ (∃ o, h.get? a = some o) ∧ ∀ h1 h2 : Heap, φ h1 → (∀ o, h1.get? a = some o → h2.get? a = some o) → φ h2
noncomputable def HOk (H : Hp) (h : Heap) : Prop := ∀ a o, H a = some o → ObjOk P w H h a o
end
section
variable {P : Program} {w : World} {H H' : Hp} {h h' : Heap} {a : Addr} {o : HO}
theorem ObjOk.lt (x : ObjOk P w H h a o) : a < h.objs.size := by
  cases o with
  | lst xs => obtain ⟨_, _, _, _, e⟩ := x; exact Heap.lt_size e
  | tup xs => obtain ⟨_, _, _, p⟩ := x; exact p.lt
  | dK kvs => obtain ⟨_, _, _, _, o, _, _, e, _⟩ := x; exact Heap.lt_size e
  | dT kvs => obtain ⟨_, _, _, _, o, _, _, e, _⟩ := x; exact Heap.lt_size e
  | dX ob kvs => obtain ⟨_, _, e, _⟩ := x; exact Heap.lt_size e
  | set S n => obtain ⟨o, _, _, _, e, _⟩ := x; exact Heap.lt_size e
  | ins C dx fs => obtain ⟨_, _, _, e, _⟩ := x; exact Heap.lt_size e
  | own y => obtain ⟨_, e⟩ := x; exact Heap.lt_size e
  | xd fs => obtain ⟨_, ⟨_, _, _, e, _⟩, _⟩ := x; exact Heap.lt_size e
  | rng lo hi => obtain ⟨_, _, _, e⟩ := x; exact Heap.lt_size e
  | frz ob u => obtain ⟨e, _⟩ := x; exact Heap.lt_size e
  | tbl ps => exact Heap.lt_size (show h.get? a = some _ from x)
  | met f y => exact Heap.lt_size (show h.get? a = some _ from x)
  | ext φ => obtain ⟨_, ⟨_, e⟩, _⟩ := x; exact Heap.lt_size e
theorem Paired.mapP {α β : Type} {F G : α → β → Prop} : ∀ {l₁ : List α} {l₂ : List β}, Paired F l₁ l₂ → (∀ a b, F a b → G a b) → Paired G l₁ l₂
  | _, _, .nil, _ => .nil
  | _, _, .cons r t, f => .cons (f _ _ r) (Paired.mapP t f)
theorem ObjOk.stay (x : ObjOk P w H h a o) (k : ∀ b u, (b = a ∨ H b = some (.own a)) → h.get? b = some u → h'.get? b = some u)
    (ho : ∀ b, H b = some (.own a) → H' b = some (.own a)) (ht : ∀ b xs, H b = some (.tup xs) → H' b = some (.tup xs)) : ObjOk P w H' h' a o := by
  induction o with
  | lst xs => obtain ⟨z, its, n, r, e⟩ := x; exact ⟨z, its, n, r, k _ _ (.inl rfl) e⟩
  | tup xs => obtain ⟨z, its, r, ob, e, c⟩ := x; exact ⟨z, its, r, ob, k _ _ (.inl rfl) e, c⟩
  | dK kvs => obtain ⟨z, y, vs, r, ob, es, ep, e, c⟩ := x; exact ⟨z, y, vs, r, ob, es, ep, k _ _ (.inl rfl) e, c⟩
  | dT kvs =>
    obtain ⟨z, y, xs, r, ob, es, ep, e, c⟩ := x
    exact ⟨z, y, xs, Paired.mapP r fun p q z => ⟨z.1, ht _ _ z.2.1, z.2.2⟩, ob, es, ep, k _ _ (.inl rfl) e, c⟩
  | dX ob kvs => obtain ⟨z, y, e, c⟩ := x; exact ⟨z, y, k _ _ (.inl rfl) e, c.stay ht⟩
  | set S n => obtain ⟨ob, es, ep, t, e, c⟩ := x; exact ⟨ob, es, ep, t, k _ _ (.inl rfl) e, c⟩
  | ins C dx fs =>
    obtain ⟨d, z, ne, e, mA, ⟨od, es, ep, e2, c⟩, r⟩ := x
    exact ⟨ho _ d, z, ne, k _ _ (.inl rfl) e, mA, ⟨od, es, ep, k _ _ (.inr d) e2, c⟩, r⟩
  | own y => obtain ⟨ob, e⟩ := x; exact ⟨ob, k _ _ (.inl rfl) e⟩
  | xd fs => obtain ⟨mA, ⟨od, es, ep, e, c⟩, r⟩ := x; exact ⟨mA, ⟨od, es, ep, k _ _ (.inl rfl) e, c⟩, r⟩
  | rng lo hi => obtain ⟨t, u, v, e⟩ := x; exact ⟨t, u, v, k _ _ (.inl rfl) e⟩
  | frz ob u ih => obtain ⟨e, q⟩ := x; exact ⟨k _ _ (.inl rfl) e, ih q⟩
  | tbl ps =>
    have e : h.get? a = some { cls := .none, data := .fields ps } := x
    show h'.get? a = some { cls := .none, data := .fields ps }
    exact k a _ (.inl rfl) e
  | met f y =>
    have e : h.get? a = some (PySem.W.methodObj (.ref f) (.ref y)) := x
    show h'.get? a = some (PySem.W.methodObj (.ref f) (.ref y))
    exact k a _ (.inl rfl) e
  | ext φ => obtain ⟨p, ⟨o, e⟩, st⟩ := x; exact ⟨st _ _ p fun o q => k _ _ (.inl rfl) q, ⟨o, k _ _ (.inl rfl) e⟩, st⟩
theorem HOk.lt (x : HOk P w H h) (e : H a = some o) : a < h.objs.size := (x a o e).lt
theorem HOk.fresh (x : HOk P w H h) (e : h.objs.size ≤ a) : H a = none := by
  cases q : H a with
  | none => rfl
  | some u => exact absurd (Nat.lt_of_lt_of_le (x.lt q) e) (Nat.lt_irrefl _)
theorem HOk.kept (x : HOk P w H h) (k : ∀ b u, h.get? b = some u → h'.get? b = some u) : HOk P w H h' := fun a o e =>
  (x a o e).stay (fun b u _ q => k b u q) (fun _ q => q) fun _ _ q => q
theorem HOk.laid (x : HOk P w H h) (k : ∀ b u, h.get? b = some u → h'.get? b = some u) (hp : h.objs.size ≤ a) (new : ObjOk P w (upd H a o) h' a o) : HOk P w (upd H a o) h' := fun b u e => by
  have hn := x.fresh hp
  by_cases hb : b = a
  · subst hb; rw [upd_same] at e; cases e; exact new
  · rw [upd_ne hb] at e
    exact (x b u e).stay (fun c v _ q => k c v q) (fun c q => by rw [upd_ne (ne_of_none q hn)]; exact q) fun c xs q => by rw [upd_ne (ne_of_none q hn)]; exact q
end
noncomputable def Rd (H : Hp) (a : Addr) (u : HO) : Prop := H a = some u ∨ ∃ o, H a = some (.frz o u)
theorem Rd.ok {P : Program} {w : World} {H : Hp} {h : Heap} {a : Addr} {u : HO} (r : Rd H a u) (x : HOk P w H h) : ObjOk P w H h a u := by
  rcases r with r | ⟨o, r⟩
  · exact x a u r
  · obtain ⟨_, q⟩ := x a _ r
    exact q
noncomputable def Mut : Option HO → Prop
  | some (.lst _) => True
  | some (.dK _) => True
  | some (.dT _) => True
  | some (.dX _ _) => True
  | some (.set _ _) => True
  | some (.ins _ _ _) => True
  | some (.ext _) => True
  | _ => False
section
variable {P : Program} {w : World} {H : Hp} {h h' : Heap} {x e : Addr} {o' : HO}
theorem HOk.write (ok : HOk P w H h) (mu : Mut (H x)) (he : e = x ∨ H e = some (.own x)) (k : ∀ b u, b ≠ e → h.get? b = some u → h'.get? b = some u) (heo : ∃ u, h'.get? e = some u)
    (new : ObjOk P w (upd H x o') h' x o') : HOk P w (upd H x o') h' := fun b u q => by
  have nown : ∀ c y, H c = some (.own y) → c ≠ x := fun c y r z => by subst z; rw [r] at mu; exact mu
  have ntup : ∀ c xs, H c = some (.tup xs) → c ≠ x := fun c xs r z => by subst z; rw [r] at mu; exact mu
  by_cases hb : b = x
  · subst hb; rw [upd_same] at q; cases q; exact new
  · rw [upd_ne hb] at q
    by_cases hbe : b = e
    · have q' : H b = some (.own x) := by
        rcases he with z | z
        · exact absurd (hbe.trans z) hb
        · rw [hbe]; exact z
      rw [q] at q'; cases q'
      obtain ⟨v, hv⟩ := heo
      exact ⟨v, by rw [hbe]; exact hv⟩
    · refine (ok b u q).stay (fun c v hc r => k c v ?_ r) (fun c r => by rw [upd_ne (nown c b r)]; exact r) fun c xs r => by rw [upd_ne (ntup c xs r)]; exact r
      rcases hc with rfl | hc
      · exact hbe
      · rintro rfl
        rcases he with z | z
        · exact nown c b hc z
        · rw [hc] at z; cases z; exact hb rfl
end
structure Un (fs ex : List Addr) (H H' : Hp) (h h' : Heap) : Prop where
  keep : ∀ b o, h.get? b = some o → H b = none → b ∉ fs → b ∉ ex → h'.get? b = some o
  slot : ∀ b o, h.get? b = some o → H b = none → b ∈ fs → b ∉ ex → ∃ sl, h'.get? b = some { o with slots := sl }
  free : ∀ b o, h.get? b = some o → H b = none → b ∉ ex → H' b = none
  there : ∀ b o, h.get? b = some o → b ∉ ex → ∃ o', h'.get? b = some o'
  tups : ∀ b xs, H b = some (.tup xs) → H' b = some (.tup xs)
  frzs : ∀ b o u, H b = some (.frz o u) → H' b = some (.frz o u)
  tbls : ∀ b ps, H b = some (.tbl ps) → ∃ more, H' b = some (.tbl (ps ++ more))
section
variable {fs fs' ex ex' : List Addr} {H H1 H2 : Hp} {h h1 h2 h' : Heap} {a x e : Addr} {o : HO}
theorem Un.any (u : Un fs ex H H1 h h1) {b : Addr} {ob : Obj} (q : h.get? b = some ob) (n : H b = none) (hx : b ∉ ex) : ∃ sl, h1.get? b = some { ob with slots := sl } := by
  by_cases hb : b ∈ fs
  · exact u.slot b ob q n hb hx
  · exact ⟨ob.slots, u.keep b ob q n hb hx⟩
theorem Un.trans (a : Un fs ex H H1 h h1) (b : Un fs ex H1 H2 h1 h2) : Un fs ex H H2 h h2 where
  keep := fun c ob q n hc hx => b.keep c ob (a.keep c ob q n hc hx) (a.free c ob q n hx) hc hx
  slot := fun c ob q n hc hx => by
    obtain ⟨sl, e1⟩ := a.slot c ob q n hc hx
    obtain ⟨sl', e2⟩ := b.slot c _ e1 (a.free c ob q n hx) hc hx
    exact ⟨sl', e2⟩
  free := fun c ob q n hx => by
    obtain ⟨o', e1⟩ := a.there c ob q hx
    exact b.free c o' e1 (a.free c ob q n hx) hx
  there := fun c ob q hx => by
    obtain ⟨o', e1⟩ := a.there c ob q hx
    exact b.there c o' e1 hx
  tups := fun c xs q => b.tups c xs (a.tups c xs q)
  frzs := fun c ob xs q => b.frzs c ob xs (a.frzs c ob xs q)
  tbls := fun c ps q => by
    obtain ⟨m1, e1⟩ := a.tbls c ps q
    obtain ⟨m2, e2⟩ := b.tbls c _ e1
    exact ⟨m1 ++ m2, by rw [e2, Array.append_assoc]⟩
theorem Un.kept (k : ∀ b u, h.get? b = some u → h'.get? b = some u) : Un fs ex H H h h' :=
  ⟨fun b ob q _ _ _ => k b ob q, fun b ob q _ _ _ => ⟨ob.slots, k b ob q⟩, fun _ _ _ n _ => n, fun b ob q _ => ⟨ob, k b ob q⟩, fun _ _ q => q, fun _ _ _ q => q, fun _ ps q => ⟨#[], by rw [q]; simp⟩⟩
theorem Un.refl : Un fs ex H H h h := Un.kept fun _ _ q => q
theorem Un.laid (k : ∀ b u, h.get? b = some u → h'.get? b = some u) (hp : h.objs.size ≤ a) (hn : H a = none) : Un fs ex H (upd H a o) h h' where
  keep := fun b u q _ _ _ => k b u q
  slot := fun b u q _ _ _ => ⟨u.slots, k b u q⟩
  free := fun b u q n _ => by rw [upd_ne (Nat.ne_of_lt (Nat.lt_of_lt_of_le (Heap.lt_size q) hp))]; exact n
  there := fun b u q _ => ⟨u, k b u q⟩
  tups := fun b xs q => by rw [upd_ne (ne_of_none q hn)]; exact q
  frzs := fun b u xs q => by rw [upd_ne (ne_of_none q hn)]; exact q
  tbls := fun b ps q => ⟨#[], by rw [upd_ne (ne_of_none q hn), q]; simp⟩
theorem Un.write (mu : Mut (H x)) (he : e = x ∨ H e = some (.own x)) (k : ∀ b u, b ≠ e → h.get? b = some u → h'.get? b = some u) (heo : ∃ u, h'.get? e = some u) : Un fs ex H (upd H x o) h h' := by
  have hx : ∀ b, H b = none → b ≠ x := fun b n z => by subst z; rw [n] at mu; exact mu
  have hb : ∀ b, H b = none → b ≠ e := fun b n z => by
    subst z
    rcases he with r | r
    · exact hx b n r
    · rw [n] at r; cases r
  have hm : ∀ b u, H b = some u → ¬ Mut (some u) → b ≠ x := fun b u q nm z => by subst z; rw [q] at mu; exact nm mu
  refine ⟨fun b u q n _ _ => k b u (hb b n) q, fun b u q n _ _ => ⟨u.slots, k b u (hb b n) q⟩, fun b u q n _ => by rw [upd_ne (hx b n)]; exact n, fun b u q _ => ?_,
    fun b xs q => by rw [upd_ne (hm b _ q fun z => z)]; exact q, fun b u xs q => by rw [upd_ne (hm b _ q fun z => z)]; exact q, fun b ps q => ⟨#[], by rw [upd_ne (hm b _ q fun z => z), q]; simp⟩⟩
  by_cases hbe : b = e
  · subst hbe; exact heo
  · exact ⟨u, k b u hbe q⟩
end
noncomputable def trk (h : Heap) (H : Hp) : List Addr := (List.range h.objs.size).filter fun a => (H a).isSome
noncomputable def hidT (h : Heap) (H : Hp) : Heap := PySem.W.hideAll h (trk h H)
theorem hidT_size (h : Heap) (H : Hp) : (hidT h H).objs.size = h.objs.size := PySem.W.hideAll_size _ _
theorem hidT_get {h : Heap} {H : Hp} {b : Addr} {o : Obj} (e : h.get? b = some o) (n : H b = none) : (hidT h H).get? b = some o :=
  PySem.W.hideAll_get _ e fun hm => by
    have q : (H b).isSome = true := (List.mem_filter.mp hm).2
    rw [n] at q; simp at q
theorem of_hidT {h : Heap} {H : Hp} {b : Addr} {o : Obj} (e : (hidT h H).get? b = some o) : h.get? b = some o ∧ H b = none := by
  have e' : h.get? b = some o := PySem.W.of_hideAll (trk h H) e
  refine ⟨e', ?_⟩
  cases q : H b with
  | none => rfl
  | some x =>
    have hm : b ∈ trk h H := List.mem_filter.mpr ⟨List.mem_range.mpr (Heap.lt_size e'), by simp [q]⟩
    have z : (hidT h H).get? b = none := PySem.W.hideAll_none (trk h H) hm
    rw [z] at e; cases e
noncomputable def allNews (g h : Heap) (L : Addr) : List (Addr × Obj) := (List.range h.objs.size).filterMap fun a => if a = L ∨ (g.get? a).isSome = true then none else (h.get? a).map fun o => (a, o)
noncomputable def rest (g h : Heap) (L d : Addr) : List (Addr × Obj) := (allNews g h L).filter fun p => decide (p.1 ≠ d)
end L2
namespace L2
open PySem PySem.Spec PyProof.Rows
structure Mod (K : PySem.W.Frag) (mg : Str → Option Value) (base : Heap) : Prop where
  kin : K.In base
  glob : base.Ns mainGlobals mg
  blt : ∃ mb, base.Ns builtinsNs mb ∧ ∀ x : Str, x ≠ "__name__" → mb x = bootBuiltins x
  nolimit : base.NoLimit
structure Cx where
  prog : Program
  w : World
  K : PySem.W.Frag
  mg : Str → Option Value
  base : Heap
  A : Around
  N : List Str
  s₀ : Shared
  H₀ : Hp
  env : Env
  outer : List Env
  stack : List Env
  ex : List Addr
  fn : Str → Bool
  calm : Bool
  pn : List (Addr × Obj)
  xe : Value → Shared → Prop
noncomputable def frs (l : List Env) : List Addr := l.filterMap (·.frame)
noncomputable abbrev Cx.fs (X : Cx) : List Addr := frs X.outer
noncomputable def Vis (sc : Scope) (x : Str) : Prop := sc.names.lookup x = some .local ∨ sc.names.lookup x = some .cell ∨ sc.names.lookup x = some .free
noncomputable def Loc (sc : Scope) (x : Str) : Prop := sc.names.lookup x = some .local ∨ sc.names.lookup x = some .cell
noncomputable def Look (env : Env) (h : Heap) (m : Str → Option Value) (x : Str) (u : Value) : Prop :=
  (env.kindOf x = some .local ∧ m x = some u) ∨ ((env.kindOf x = some .cell ∨ env.kindOf x = some .free) ∧ ∃ c, env.cells.lookup x = some c ∧ h.IsCell c (some u))
structure Cx.Ok (X : Cx) : Prop where
  mod : Mod X.K X.mg X.base
  kind : X.env.scope.kind = .function
  glob : X.env.globals = mainGlobals
  blt : X.env.builtins = builtinsNs
  above : X.s₀.heap.objs.size ≤ X.env.locals
  inj : ∀ x y c, X.env.cells.lookup x = some c → X.env.cells.lookup y = some c → x = y
  has : ∀ x, (X.env.kindOf x = some .cell ∨ X.env.kindOf x = some .free) → ∃ c, X.env.cells.lookup x = some c
  cab : ∀ x c, X.fn x = true → X.env.cells.lookup x = some c → X.s₀.heap.objs.size ≤ c
  hd : X.calm = true → X.A.handled = none
  frames : X.A.frames = some X.stack
  stk : X.stack = X.outer ∨ (X.stack = X.env :: X.outer ∧ X.env.frame = some X.env.locals)
  exf : ∀ b ∈ X.ex, b ≠ X.env.locals ∧ ∀ x c, X.env.cells.lookup x = some c → c ≠ b
  bs : ∀ b o, X.base.get? b = some o → X.s₀.heap.get? b = some o ∧ X.H₀ b = none
  bsz : X.base.objs.size ≤ X.s₀.heap.objs.size
  noex : ∀ b o, X.base.get? b = some o → b ∉ X.ex
  exfs : ∀ b ∈ X.ex, b ∉ X.fs
  funs : X.s₀.heap.FunFrames X.base X.outer
  frf : ∀ b ∈ X.fs, X.H₀ b = none
structure Inv (X : Cx) (pins : List (Addr × Obj)) (σ : List (Option V)) (H : Hp) (s : Shared) : Prop where
  ok : X.Ok
  os : s.os = X.s₀.os
  bare : AllBare s.gens
  base : Un X.fs X.ex X.H₀ H X.s₀.heap s.heap
  loc : ∃ m, s.heap.Ns X.env.locals m ∧ ∀ (i : Nat) (x : Str) (v : V), X.N[i]? = some x → σ[i]? = some (some v) → Vis X.env.scope x → ∃ u, RelV v u ∧ Look X.env s.heap m x u
  cell : ∀ x c, X.env.cells.lookup x = some c → ∃ v, s.heap.IsCell c v
  free : H X.env.locals = none
  freeC : ∀ x c, X.env.cells.lookup x = some c → H c = none
  pin : ∀ p ∈ X.pn ++ pins, s.heap.get? p.1 = some p.2 ∧ H p.1 = none ∧ p.1 ≠ X.env.locals ∧ p.1 ∉ X.fs ∧ ∀ v, p.2.data ≠ .cell v
  hok : HOk X.prog X.w H s.heap
  len : σ.length = X.N.length
section
variable {X : Cx} {pins : List (Addr × Obj)} {σ : List (Option V)} {H H' : Hp} {s : Shared} {h' : Heap}
theorem Cx.Ok.nofr (ok : X.Ok) {b : Addr} {o : Obj} (e : X.base.get? b = some o) : b ∉ X.fs := fun hb => by
  have := (ok.funs.mem hb).1
  rw [e] at this; cases this
theorem Inv.bs (I : Inv X pins σ H s) : ∀ b o, X.base.get? b = some o → s.heap.get? b = some o ∧ H b = none := fun b o e =>
  ⟨I.base.keep b o (I.ok.bs b o e).1 (I.ok.bs b o e).2 (I.ok.nofr e) (I.ok.noex b o e), I.base.free b o (I.ok.bs b o e).1 (I.ok.bs b o e).2 (I.ok.noex b o e)⟩
theorem Inv.bk (I : Inv X pins σ H s) : ∀ b o, X.base.get? b = some o → s.heap.get? b = some o := fun b o e => (I.bs b o e).1
theorem Inv.mod (I : Inv X pins σ H s) : Mod X.K X.mg X.base := I.ok.mod
theorem Inv.kIn (I : Inv X pins σ H s) : X.K.In s.heap := I.ok.mod.kin.keeps I.bk
theorem Inv.fr (I : Inv X pins σ H s) : ∃ m, Fr X.base X.env.locals s.heap m :=
  let ⟨m, hn, _⟩ := I.loc
  ⟨m, hn, I.bk, Nat.le_trans I.ok.bsz I.ok.above⟩
theorem Inv.lt (I : Inv X pins σ H s) : X.env.locals < s.heap.objs.size := let ⟨_, hn, _⟩ := I.loc; hn.lt
theorem Inv.sz (I : Inv X pins σ H s) : X.s₀.heap.objs.size ≤ s.heap.objs.size := Nat.le_trans I.ok.above (Nat.le_of_lt I.lt)
theorem Inv.nofs (I : Inv X pins σ H s) {a : Addr} (h : s.heap.objs.size ≤ a) : a ∉ X.fs := fun hb => by
  obtain ⟨_, o, ho, _⟩ := I.ok.funs.mem hb
  exact absurd (Nat.lt_of_lt_of_le (Heap.lt_size ho) (Nat.le_trans I.sz h)) (Nat.lt_irrefl _)
theorem Inv.cne (I : Inv X pins σ H s) : ∀ x c, X.env.cells.lookup x = some c → c ≠ X.env.locals := fun x c e z => by
  obtain ⟨v, o, ho, hd⟩ := I.cell x c e
  obtain ⟨m, ⟨o', es, ep, ho', hd', _⟩, _⟩ := I.loc
  rw [z, ho'] at ho; cases ho; rw [hd'] at hd; cases hd
theorem Inv.funs (I : Inv X pins σ H s) : s.heap.FunFrames X.base X.outer := by
  have all : ∀ (l : List Env), (∀ b ∈ frs l, b ∈ X.fs) → X.s₀.heap.FunFrames X.base l → s.heap.FunFrames X.base l := by
    intro l
    induction l with
    | nil => intro _ _; trivial
    | cons env r ih =>
      intro hs hl
      obtain ⟨hk, ⟨L, o, hf, hn, ho, hd⟩, hr⟩ := hl
      have hL : L ∈ X.fs := hs L (by unfold frs; rw [List.filterMap_cons, hf]; exact List.mem_cons_self)
      obtain ⟨sl, e⟩ := I.base.slot L o ho (I.ok.frf L hL) hL fun z => I.ok.exfs L z hL
      exact ⟨hk, ⟨L, _, hf, hn, e, hd⟩, ih (fun b hb => hs b (by unfold frs; rw [List.filterMap_cons, hf]; exact List.mem_cons_of_mem _ hb)) hr⟩
  exact all X.outer (fun _ hb => hb) I.ok.funs
theorem Inv.stack (I : Inv X pins σ H s) : s.heap.FunFrames X.base X.stack := by
  rcases I.ok.stk with e | ⟨e, hf⟩
  · rw [e]; exact I.funs
  · rw [e]
    obtain ⟨m, hn, _⟩ := I.loc
    refine .cons (by rw [I.ok.kind]; decide) hf hn ?_ I.funs
    exact Heap.get?_none_of_le (Nat.le_trans I.ok.bsz I.ok.above)
theorem Inv.stkSub (I : Inv X pins σ H s) : ∀ b ∈ frs X.stack, b ∈ X.env.locals :: X.fs := fun b hb => by
  rcases I.ok.stk with e | ⟨e, hf⟩
  · rw [e] at hb; exact List.mem_cons_of_mem _ hb
  · rw [e] at hb
    unfold frs at hb
    rw [List.filterMap_cons, hf] at hb
    exact hb
theorem Inv.stkFree (I : Inv X pins σ H s) : ∀ b ∈ frs X.stack, H b = none := fun b hb => by
  rcases List.mem_cons.mp (I.stkSub b hb) with e | hb
  · rw [e]; exact I.free
  · obtain ⟨_, o, ho, _⟩ := I.ok.funs.mem hb
    exact I.base.free b o ho (I.ok.frf b hb) fun z => I.ok.exfs b z hb
theorem Inv.step {g' : Array GenState} {t' : Nat} {d' : Drawn} {ch : List Addr} (I : Inv X pins σ H s)
    (hch : ∀ b ∈ ch, (b ∈ X.ex ∨ X.s₀.heap.objs.size ≤ b) ∧ b ≠ X.env.locals ∧ (∀ x c, X.env.cells.lookup x = some c → c ≠ b) ∧ ∀ p ∈ X.pn ++ pins, p.1 ≠ b)
    (keep : ∀ b o, b ≠ X.env.locals → b ∉ X.fs → b ∉ ch → s.heap.get? b = some o → H b = none → h'.get? b = some o)
    (slot : ∀ b o, b ≠ X.env.locals → b ∈ X.fs → b ∉ ch → s.heap.get? b = some o → H b = none → ∃ sl, h'.get? b = some { o with slots := sl }) (free : ∀ b o, b ∉ ch → s.heap.get? b = some o → H b = none → H' b = none)
    (there : ∀ b o, b ∉ ch → s.heap.get? b = some o → ∃ o', h'.get? b = some o')
    (tups : ∀ b xs, H b = some (.tup xs) → H' b = some (.tup xs)) (frzs : ∀ b o u, H b = some (.frz o u) → H' b = some (.frz o u)) (tbls : ∀ b ps, H b = some (.tbl ps) → ∃ more, H' b = some (.tbl (ps ++ more)))
    (ns : ∀ m, s.heap.Ns X.env.locals m → h'.Ns X.env.locals m) (hok : HOk X.prog X.w H' h') (hg : AllBare g') :
    Inv X pins σ H' { s with heap := h', gens := g', drawn := d', toks := t' } := by
  have neL : ∀ b o, X.s₀.heap.get? b = some o → b ≠ X.env.locals := fun b o e => Nat.ne_of_lt (Nat.lt_of_lt_of_le (Heap.lt_size e) I.ok.above)
  have neC : ∀ b o, X.s₀.heap.get? b = some o → b ∉ X.ex → b ∉ ch := fun b o e hx hb => by
    rcases (hch b hb).1 with z | z
    · exact hx z
    · exact absurd (Nat.lt_of_lt_of_le (Heap.lt_size e) z) (Nat.lt_irrefl _)
  have cellK : ∀ x c, X.env.cells.lookup x = some c → ∀ v, s.heap.IsCell c v → h'.IsCell c v := fun x c e v hq1 => by
    obtain ⟨o, ho, hd⟩ := hq1
    have nch : c ∉ ch := fun z => (hch c z).2.2.1 x c e rfl
    by_cases hc : c ∈ X.fs
    · obtain ⟨sl, q⟩ := slot c o (I.cne x c e) hc nch ho (I.freeC x c e)
      exact ⟨_, q, hd⟩
    · exact ⟨o, keep c o (I.cne x c e) hc nch ho (I.freeC x c e), hd⟩
  refine ⟨I.ok, I.os, hg, ⟨fun b o e n hb hx => ?_, fun b o e n hb hx => ?_, fun b o e n hx => ?_, fun b o e hx => ?_, fun b xs e => tups b xs (I.base.tups b xs e), fun b o xs e => frzs b o xs (I.base.frzs b o xs e), fun b ps e => ?_⟩, ?_, fun x c e => ?_, ?_, fun x c e => ?_, fun p hp => ?_, hok, I.len⟩
  · exact keep b o (neL b o e) hb (neC b o e hx) (I.base.keep b o e n hb hx) (I.base.free b o e n hx)
  · obtain ⟨sl, e1⟩ := I.base.slot b o e n hb hx
    obtain ⟨sl', e2⟩ := slot b _ (neL b o e) hb (neC b o e hx) e1 (I.base.free b o e n hx)
    exact ⟨sl', e2⟩
  · obtain ⟨o', e1⟩ := I.base.there b o e hx
    exact free b o' (neC b o e hx) e1 (I.base.free b o e n hx)
  · obtain ⟨o', e1⟩ := I.base.there b o e hx
    exact there b o' (neC b o e hx) e1
  · obtain ⟨m1, e1⟩ := I.base.tbls b ps e
    obtain ⟨m2, e2⟩ := tbls b _ e1
    exact ⟨m1 ++ m2, by rw [e2, Array.append_assoc]⟩
  · obtain ⟨m, hn, hl⟩ := I.loc
    refine ⟨m, ns m hn, fun i x v e1 e2 e3 => ?_⟩
    obtain ⟨u, r, l⟩ := hl i x v e1 e2 e3
    refine ⟨u, r, ?_⟩
    rcases l with l | ⟨k, c, e, z⟩
    · exact .inl l
    · exact .inr ⟨k, c, e, cellK x c e _ z⟩
  · obtain ⟨v, z⟩ := I.cell x c e
    exact ⟨v, cellK x c e v z⟩
  · obtain ⟨m, ⟨o, _, _, ho, _⟩, _⟩ := I.loc
    exact free _ o (fun z => (hch _ z).2.1 rfl) ho I.free
  · obtain ⟨v, o, ho, hd⟩ := I.cell x c e
    exact free c o (fun z => (hch c z).2.2.1 x c e rfl) ho (I.freeC x c e)
  · obtain ⟨e, n, ne, nf, d⟩ := I.pin p hp
    have nch : p.1 ∉ ch := fun z => (hch p.1 z).2.2.2 p hp rfl
    exact ⟨keep p.1 p.2 ne nf nch e n, free p.1 p.2 nch e n, ne, nf, d⟩
theorem Inv.un {t' : Nat} (I : Inv X pins σ H s) (u : Un X.fs [] H H' s.heap h') (hok : HOk X.prog X.w H' h') : Inv X pins σ H' { s with heap := h', toks := t' } := by
  obtain ⟨m, ⟨o, es, ep, ho, r⟩, _⟩ := id I.loc
  obtain ⟨sl, hL⟩ := u.any ho I.free (by simp)
  exact I.step (g' := s.gens) (d' := s.drawn) (ch := []) (fun _ z => nomatch z) (fun b o _ hb _ e n => u.keep b o e n hb (by simp)) (fun b o _ hb _ e n => u.slot b o e n hb (by simp)) (fun b o _ e n => u.free b o e n (by simp)) (fun b o _ e => u.there b o e (by simp)) u.tups u.frzs u.tbls (fun m' hm => by
    obtain ⟨o', es', ep', ho', r'⟩ := hm
    rw [ho] at ho'; cases ho'
    exact ⟨_, es', ep', hL, r'⟩) hok I.bare
theorem Inv.call {g' : Array GenState} {t' : Nat} {d' : Drawn} {ch : List Addr} (I : Inv X pins σ H s) (u : Un (frs X.stack) ch H H' s.heap h') (hok : HOk X.prog X.w H' h') (hg : AllBare g')
    (hch : ∀ b ∈ ch, (b ∈ X.ex ∨ X.s₀.heap.objs.size ≤ b) ∧ b ≠ X.env.locals ∧ (∀ x c, X.env.cells.lookup x = some c → c ≠ b) ∧ ∀ p ∈ X.pn ++ pins, p.1 ≠ b) :
    Inv X pins σ H' { s with heap := h', gens := g', drawn := d', toks := t' } := by
  obtain ⟨m, ⟨o, es, ep, ho, r⟩, _⟩ := id I.loc
  obtain ⟨sl, hL⟩ := u.any ho I.free fun z => (hch _ z).2.1 rfl
  exact I.step (ch := ch) hch (fun b o hL hb hc e n => u.keep b o e n (fun z => (List.mem_cons.mp (I.stkSub b z)).elim hL hb) hc) (fun b o _ _ hc e n => u.any e n hc) (fun b o hc e n => u.free b o e n hc) (fun b o hc e => u.there b o e hc) u.tups u.frzs u.tbls (fun m' hm => by
    obtain ⟨o', es', ep', ho', r'⟩ := hm
    rw [ho] at ho'; cases ho'
    exact ⟨_, es', ep', hL, r'⟩) hok hg
theorem Inv.turned {t' : Nat} {it : Addr} (I : Inv X pins σ H s) (k : ∀ b o, b ≠ it → s.heap.get? b = some o → h'.get? b = some o) (hn : H it = none) (hL : it ≠ X.env.locals)
    (h1 : it ∈ X.ex ∨ X.s₀.heap.objs.size ≤ it) (h2 : ∀ x c, X.env.cells.lookup x = some c → c ≠ it) (h3 : ∀ p ∈ X.pn ++ pins, p.1 ≠ it) : Inv X pins σ H { s with heap := h', toks := t' } := by
  have nit : ∀ b u, H b = some u → b ≠ it := fun b u e z => by rw [z, hn] at e; cases e
  refine I.step (g' := s.gens) (d' := s.drawn) (ch := [it]) (fun b hb => ?_) (fun b o _ _ hc e _ => k b o (fun z => hc (by simp [z])) e) (fun b o _ _ hc e _ => ⟨o.slots, k b o (fun z => hc (by simp [z])) e⟩) (fun _ _ _ _ n => n)
    (fun b o hc e => ⟨o, k b o (fun z => hc (by simp [z])) e⟩) (fun _ _ e => e) (fun _ _ _ e => e) (fun b ps e => ⟨#[], by rw [e]; simp⟩) (fun m hm => ?_) (fun b u e => ?_) I.bare
  · have e : b = it := by simpa using hb
    subst e
    exact ⟨h1, hL, h2, h3⟩
  · obtain ⟨o, es, ep, ho, r⟩ := hm
    exact ⟨o, es, ep, k _ o (Ne.symm hL) ho, r⟩
  · refine (I.hok b u e).stay (fun c v hc q => k c v ?_ q) (fun _ q => q) fun _ _ q => q
    rcases hc with z | z
    · rw [z]; exact nit b u e
    · exact nit c _ z
theorem Inv.tok (I : Inv X pins σ H s) (t : Nat) : Inv X pins σ H { s with toks := t } := I.un (h' := s.heap) (t' := t) Un.refl I.hok
theorem Inv.kept {t' : Nat} (I : Inv X pins σ H s) (k : ∀ b u, s.heap.get? b = some u → h'.get? b = some u) : Inv X pins σ H { s with heap := h', toks := t' } := I.un (Un.kept k) (I.hok.kept k)
theorem Inv.laid {a : Addr} {o : HO} {t' : Nat} (I : Inv X pins σ H s) (k : ∀ b u, s.heap.get? b = some u → h'.get? b = some u) (hp : s.heap.objs.size ≤ a) (new : ObjOk X.prog X.w (upd H a o) h' a o) :
    Inv X pins σ (upd H a o) { s with heap := h', toks := t' } := I.un (Un.laid k hp (I.hok.fresh hp)) (I.hok.laid k hp new)
theorem Inv.write {x e : Addr} {o : HO} {t' : Nat} (I : Inv X pins σ H s) (mu : Mut (H x)) (he : e = x ∨ H e = some (.own x)) (k : ∀ b u, b ≠ e → s.heap.get? b = some u → h'.get? b = some u) (heo : ∃ u, h'.get? e = some u)
    (new : ObjOk X.prog X.w (upd H x o) h' x o) : Inv X pins σ (upd H x o) { s with heap := h', toks := t' } := I.un (Un.write mu he k heo) (I.hok.write mu he k heo new)
theorem Inv.weak {σ' : List (Option V)} (I : Inv X pins σ H s) (hl : σ'.length = σ.length) (w : ∀ (i : Nat) v, σ'[i]? = some (some v) → σ[i]? = some (some v)) : Inv X pins σ' H s :=
  ⟨I.ok, I.os, I.bare, I.base, let ⟨m, hn, hl'⟩ := I.loc; ⟨m, hn, fun i x v e1 e2 e3 => hl' i x v e1 (w i v e2) e3⟩, I.cell, I.free, I.freeC, I.pin, I.hok, hl.trans I.len⟩
theorem Inv.pins_of {pins' : List (Addr × Obj)} (I : Inv X pins σ H s) (h : ∀ p ∈ pins', s.heap.get? p.1 = some p.2 ∧ H p.1 = none ∧ p.1 ≠ X.env.locals ∧ p.1 ∉ X.fs ∧ ∀ v, p.2.data ≠ .cell v) : Inv X pins' σ H s :=
  ⟨I.ok, I.os, I.bare, I.base, I.loc, I.cell, I.free, I.freeC, fun p hp => (List.mem_append.mp hp).elim (fun z => I.pin p (List.mem_append_left _ z)) (h p), I.hok, I.len⟩
theorem nodup_ix {N : List Str} (hN : N.Nodup) {i j : Nat} {x : Str} (a : N[i]? = some x) (b : N[j]? = some x) : i = j := by
  obtain ⟨h1, e1⟩ := List.getElem?_eq_some_iff.mp a
  obtain ⟨h2, e2⟩ := List.getElem?_eq_some_iff.mp b
  exact (List.getElem_inj hN).mp (e1.trans e2.symm)
theorem store_ok2 {M : Model} {A : Around} {E : Value → Shared → Prop} {i : Nat} {x : Str} {v : V} {u : Value} {Q : Unit → Shared → Prop} (I : Inv X pins σ H s) (hN : X.N.Nodup) (hi : X.N[i]? = some x) (hx : Loc X.env.scope x) (r : RelV v u)
    (h : ∀ s', Inv X pins (σ.set i (some v)) H s' → (∃ a, Heap.SameBut a s.heap s'.heap ∧ (a = X.env.locals ∨ X.env.cells.lookup x = some a)) → Q () s') (hf : X.fn x = true ∨ X.env.scope.names.lookup x = some .local := by first | exact .inl rfl | exact .inr rfl | assumption) : wpAny M A (storeName X.env x u) Q E s := by
  obtain ⟨m, hn, hl⟩ := id I.loc
  have hcls : (X.env.scope.kind == .class || (X.env.scope.kind == .module && X.env.locals != X.env.globals)) = false := by rw [I.ok.kind]; rfl
  have hiσ : i < σ.length := by rw [I.len]; exact (List.getElem?_eq_some_iff.mp hi).1
  have cne := I.cne
  have tracked : ∀ {a : Addr} {h' : Heap}, (∃ o, s.heap.get? a = some o ∧ H a = none) → Heap.SameBut a s.heap h' → HOk X.prog X.w H h' := fun {a h'} ha hs b ob e => by
    obtain ⟨_, _, hfree⟩ := ha
    refine (I.hok b ob e).stay (fun c w' hc q => (hs.2 c ?_).trans q) (fun _ q => q) fun _ _ q => q
    rintro rfl
    rcases hc with rfl | hc
    · rw [hfree] at e; cases e
    · rw [hfree] at hc; cases hc
  rcases hx with hk | hk
  · refine wpAny_storeName_local hk hn (fun h' hn' hs => ?_) hcls
    obtain ⟨oL, _, _, hoL, _⟩ := id hn
    refine h _ ⟨I.ok, I.os, I.bare, ⟨fun b o e n hb hx => ?_, fun b o e n hb hx => ?_, I.base.free, fun b o e hx => ?_, I.base.tups, I.base.frzs, I.base.tbls⟩, ⟨_, hn', fun j y v' e1 e2 e3 => ?_⟩, fun y c e => ?_, I.free, I.freeC, fun p hp => ?_, tracked ⟨oL, hoL, I.free⟩ hs, by simpa using I.len⟩ ⟨_, hs, .inl rfl⟩
    · exact (hs.2 b (Nat.ne_of_lt (Nat.lt_of_lt_of_le (Heap.lt_size e) I.ok.above))).trans (I.base.keep b o e n hb hx)
    · obtain ⟨sl, e1⟩ := I.base.slot b o e n hb hx
      exact ⟨sl, (hs.2 b (Nat.ne_of_lt (Nat.lt_of_lt_of_le (Heap.lt_size e) I.ok.above))).trans e1⟩
    · obtain ⟨o', e1⟩ := I.base.there b o e hx
      exact ⟨o', (hs.2 b (Nat.ne_of_lt (Nat.lt_of_lt_of_le (Heap.lt_size e) I.ok.above))).trans e1⟩
    · by_cases hj : j = i
      · subst hj
        rw [hi] at e1; cases e1
        rw [List.getElem?_set_self hiσ] at e2
        cases e2
        exact ⟨u, r, .inl ⟨hk, by simp⟩⟩
      · rw [List.getElem?_set_ne (Ne.symm hj)] at e2
        obtain ⟨u', r', q⟩ := hl j y v' e1 e2 e3
        refine ⟨u', r', ?_⟩
        rcases q with ⟨k, e⟩ | ⟨k, c, e, z⟩
        · refine .inl ⟨k, ?_⟩
          have : y ≠ x := fun e => hj (nodup_ix hN e1 (e ▸ hi))
          simp [this, e]
        · exact .inr ⟨k, c, e, z.sameBut hs (cne y c e)⟩
    · obtain ⟨w', z⟩ := I.cell y c e
      exact ⟨w', z.sameBut hs (cne y c e)⟩
    · obtain ⟨e, n, ne, nf, d⟩ := I.pin p hp
      exact ⟨(hs.2 p.1 ne).trans e, n, ne, nf, d⟩
  · have hfn : X.fn x = true := by
      rcases hf with z | z
      · exact z
      · rw [z] at hk; cases hk
    obtain ⟨c, hc⟩ := I.ok.has x (.inl hk)
    obtain ⟨w', z⟩ := I.cell x c hc
    refine wpAny_storeName_cell I.ok.kind hk hc z (fun h' hc' hs => ?_)
    obtain ⟨oc, hoc, hocd⟩ := id z
    refine h { s with heap := h' } ⟨I.ok, I.os, I.bare, ⟨fun b o e n hb hx => ?_, fun b o e n hb hx => ?_, I.base.free, fun b o e hx => ?_, I.base.tups, I.base.frzs, I.base.tbls⟩, ⟨m, hn.sameBut hs (Ne.symm (cne x c hc)), fun j y v' e1 e2 e3 => ?_⟩, fun y c' e => ?_, I.free, I.freeC, fun p hp => ?_, tracked ⟨oc, hoc, I.freeC x c hc⟩ hs, by simpa using I.len⟩ ⟨c, hs, .inr hc⟩
    · exact (hs.2 b (Nat.ne_of_lt (Nat.lt_of_lt_of_le (Heap.lt_size e) (I.ok.cab x c hfn hc)))).trans (I.base.keep b o e n hb hx)
    · obtain ⟨sl, e1⟩ := I.base.slot b o e n hb hx
      exact ⟨sl, (hs.2 b (Nat.ne_of_lt (Nat.lt_of_lt_of_le (Heap.lt_size e) (I.ok.cab x c hfn hc)))).trans e1⟩
    · obtain ⟨o', e1⟩ := I.base.there b o e hx
      exact ⟨o', (hs.2 b (Nat.ne_of_lt (Nat.lt_of_lt_of_le (Heap.lt_size e) (I.ok.cab x c hfn hc)))).trans e1⟩
    · by_cases hj : j = i
      · subst hj
        rw [hi] at e1; cases e1
        rw [List.getElem?_set_self hiσ] at e2
        cases e2
        exact ⟨u, r, .inr ⟨.inl hk, c, hc, hc'⟩⟩
      · rw [List.getElem?_set_ne (Ne.symm hj)] at e2
        obtain ⟨u', r', q⟩ := hl j y v' e1 e2 e3
        refine ⟨u', r', ?_⟩
        rcases q with q | ⟨k, c', e, z'⟩
        · exact .inl q
        · refine .inr ⟨k, c', e, z'.sameBut hs ?_⟩
          rintro rfl
          exact hj (nodup_ix hN e1 (I.ok.inj _ _ _ e hc ▸ hi))
    · by_cases hcc : c' = c
      · subst hcc; exact ⟨_, hc'⟩
      · obtain ⟨w2, z2⟩ := I.cell y c' e
        exact ⟨w2, z2.sameBut hs hcc⟩
    · obtain ⟨e, n, ne, nf, d⟩ := I.pin p hp
      refine ⟨(hs.2 p.1 ?_).trans e, n, ne, nf, d⟩
      intro q
      rw [q, hoc] at e
      have q' : oc = p.2 := Option.some.inj e
      exact d w' (by rw [← q']; exact hocd)
theorem store_ok {M : Model} {A : Around} {E : Value → Shared → Prop} {i : Nat} {x : Str} {v : V} {u : Value} {Q : Unit → Shared → Prop} (I : Inv X pins σ H s) (hN : X.N.Nodup) (hi : X.N[i]? = some x) (hx : Loc X.env.scope x) (r : RelV v u)
    (h : ∀ s', Inv X pins (σ.set i (some v)) H s' → Q () s') (hf : X.fn x = true ∨ X.env.scope.names.lookup x = some .local := by first | exact .inl rfl | exact .inr rfl | assumption) : wpAny M A (storeName X.env x u) Q E s :=
  store_ok2 I hN hi hx r (fun s' I' _ => h s' I') hf
theorem Inv.call' {s' : Shared} {ch : List Addr} (I : Inv X pins σ H s) (ho : s'.os = s.os) (u : Un (frs X.stack) ch H H' s.heap s'.heap) (hok : HOk X.prog X.w H' s'.heap) (hg : AllBare s'.gens)
    (hch : ∀ b ∈ ch, (b ∈ X.ex ∨ X.s₀.heap.objs.size ≤ b) ∧ b ≠ X.env.locals ∧ (∀ x c, X.env.cells.lookup x = some c → c ≠ b) ∧ ∀ p ∈ X.pn ++ pins, p.1 ≠ b) : Inv X pins σ H' s' := by
  obtain ⟨h', g', d', t', o'⟩ := s'
  have e : o' = s.os := ho
  subst e
  exact I.call (g' := g') (t' := t') (d' := d') u hok hg hch
end
noncomputable abbrev XK := Value → Option Addr → Hp → Prop
noncomputable abbrev St := List (Option V)
noncomputable abbrev VK := V → Hp → Prop
noncomputable abbrev TE := St → Hp → VK → Prop
noncomputable abbrev TT := St → Hp → (Bool → Hp → Prop) → Prop
noncomputable abbrev TA := St → Hp → (List V → Hp → Prop) → Prop
structure Ends where
  nx : St → Hp → Prop
  rt : VK
  bk : St → Hp → Prop := fun _ _ => False
  ct : St → Hp → Prop := fun _ _ => False
noncomputable abbrev TS := Ends → St → Hp → Prop
noncomputable def EP (X : Cx) (pins : List (Addr × Obj)) (σ : St) (Q : VK) (u : Value) (s' : Shared) : Prop := ∃ v H', Inv X pins σ H' s' ∧ RelV v u ∧ Q v H'
noncomputable def TP (X : Cx) (pins : List (Addr × Obj)) (σ : St) (Q : Bool → Hp → Prop) (b : Bool) (s' : Shared) : Prop := ∃ H', Inv X pins σ H' s' ∧ Q b H'
noncomputable def AP (X : Cx) (pins : List (Addr × Obj)) (σ : St) (Q : List V → Hp → Prop) (us : List Value) (s' : Shared) : Prop := ∃ vs H', Inv X pins σ H' s' ∧ Vals vs us ∧ Q vs H'
noncomputable def SP (X : Cx) (pins : List (Addr × Obj)) (D : Ends) (f : Flow) (s' : Shared) : Prop :=
  match f with
  | .next => ∃ σ' H', Inv X pins σ' H' s' ∧ D.nx σ' H'
  | .brk => ∃ σ' H', Inv X pins σ' H' s' ∧ D.bk σ' H'
  | .cont => ∃ σ' H', Inv X pins σ' H' s' ∧ D.ct σ' H'
  | .ret u => ∃ v σ' H', Inv X pins σ' H' s' ∧ RelV v u ∧ D.rt v H'
noncomputable def PE (X : Cx) (e : Expr) (t : TE) : Prop :=
  ∀ (pins : List (Addr × Obj)) (s : Shared) (σ : St) (H : Hp) (Q : VK), Inv X pins σ H s → t σ H Q → wpAny (model X.prog X.w) X.A (eval e X.env) (EP X pins σ Q) X.xe s
noncomputable def PT (X : Cx) (e : Expr) (t : TT) : Prop :=
  ∀ (pins : List (Addr × Obj)) (s : Shared) (σ : St) (H : Hp) (Q : Bool → Hp → Prop), Inv X pins σ H s → t σ H Q → wpAny (model X.prog X.w) X.A (isTrue e X.env (eval e X.env)) (TP X pins σ Q) X.xe s
noncomputable def PW (X : Cx) (e : Expr) (t : TT) : Prop :=
  ∀ (whole : Sem Value) (pins : List (Addr × Obj)) (s : Shared) (σ : St) (H : Hp) (Q : Bool → Hp → Prop), Inv X pins σ H s → t σ H Q → wpAny (model X.prog X.w) X.A (isTrue e X.env whole) (TP X pins σ Q) X.xe s
theorem PW.pt {X : Cx} {e : Expr} {t : TT} (h : PW X e t) : PT X e t := h _
noncomputable def PA (X : Cx) (es : List Expr) (t : TA) : Prop :=
  ∀ (pos : Pos) (pins : List (Addr × Obj)) (s : Shared) (σ : St) (H : Hp) (Q : List V → Hp → Prop), Inv X pins σ H s → t σ H Q → wpAny (model X.prog X.w) X.A (spliced (backTo pos (starEach es X.env))) (AP X pins σ Q) X.xe s
noncomputable def PS (X : Cx) (st : Stmt) (t : TS) : Prop :=
  ∀ (pins : List (Addr × Obj)) (s : Shared) (σ : St) (H : Hp) (D : Ends), Inv X pins σ H s → t D σ H → wpAny (model X.prog X.w) X.A (exec st X.env) (SP X pins D) X.xe s
noncomputable def PSs (X : Cx) (st : List Stmt) (t : TS) : Prop :=
  ∀ (pins : List (Addr × Obj)) (s : Shared) (σ : St) (H : Hp) (D : Ends), Inv X pins σ H s → t D σ H → wpAny (model X.prog X.w) X.A (execs st X.env) (SP X pins D) X.xe s
theorem thn {α : Type} {t : Sem α} {Q Q' : α → Shared → Prop} {M : Model} {A : Around} {E : Value → Shared → Prop} {s : Shared} (h : wpAny M A t Q E s) (hQ : ∀ a s, Q a s → Q' a s) : wpAny M A t Q' E s := wpAny_mono h hQ fun _ _ x => x
end L2
namespace L2
open PySem PySem.Spec PyProof.Rows
section
variable {X : Cx}
noncomputable def tVar (i : Nat) : TE := fun σ H Q => ∃ v, σ[i]? = some (some v) ∧ Q v H
noncomputable def tC (v : V) : TE := fun _ H Q => Q v H
theorem pe_var {i : Nat} {x : Str} {pos : Pos} (hN : X.N[i]? = some x) (hv : Vis X.env.scope x) (hd : (x == ("__debug__" : Str)) = false := by decide) (hcd : (x == ("__classdict__" : Str)) = false := by decide) : PE X (.Name x pos) (tVar i) := by
  intro pins s σ H Q I h
  obtain ⟨v, e, h⟩ := h
  obtain ⟨m, hn, hl⟩ := I.loc
  obtain ⟨u, r, l⟩ := hl i x v hN e hv
  have fin : EP X pins σ Q u s := ⟨v, H, I, r, h⟩
  rcases l with ⟨hk, hm⟩ | ⟨hk, c, hc, hcell⟩
  · exact wpAny_Name (wpAny_loadName_local I.ok.kind hk hn hm fin) hd
  · rcases hk with hk | hk
    · exact wpAny_Name (wpAny_loadName_cell I.ok.kind hk hc hcell fin) hd
    · exact wpAny_Name (wpAny_loadName_free I.ok.kind hk hc hcell fin hcd) hd
theorem pe_int {i j pos} : PE X (.Constant (.int i) j pos) (tC (.int i)) := fun _ _ _ H _ I h => wpAny_Constant_int ⟨.int i, H, I.tok _, ⟨_, rfl⟩, h⟩
theorem pe_bl {b j pos} : PE X (.Constant (.bool b) j pos) (tC (.bl b)) := fun _ _ _ H _ I h => Constant_bool ⟨.bl b, H, I, rfl, h⟩
theorem pe_non {j pos} : PE X (.Constant .none j pos) (tC .non) := fun _ _ _ H _ I h => Constant_none ⟨.non, H, I, rfl, h⟩
theorem pe_str {x j pos} : PE X (.Constant (.str x) j pos) (tC (.str x)) := fun _ _ _ H _ I h => Calls.Constant_str ⟨.str x, H, I.tok _, ⟨_, rfl⟩, h⟩
noncomputable def Gl (X : Cx) (x : Str) : Prop := X.env.kindOf x = some .globalImplicit
theorem ld_glob {E : Value → Shared → Prop} {pins : List (Addr × Obj)} {s : Shared} {σ : St} {H : Hp} {x : Str} {u : Value} {pos : Pos} {Q : Value → Shared → Prop} (I : Inv X pins σ H s) (hg : Gl X x) (hm : X.mg x = some u) (h : Q u s)
    (hd : (x == ("__debug__" : Str)) = false := by decide) : wpAny (model X.prog X.w) X.A (eval (.Name x pos) X.env) Q E s :=
  Calls.Name_function_global I.ok.kind hg (Calls.loadGlobal_global (by rw [I.ok.glob]; exact I.mod.glob.keeps I.bk) hm h) hd
theorem ld_blt {E : Value → Shared → Prop} {pins : List (Addr × Obj)} {s : Shared} {σ : St} {H : Hp} {x : Str} {u : Value} {pos : Pos} {Q : Value → Shared → Prop} (I : Inv X pins σ H s) (hg : Gl X x) (hm : X.mg x = none) (hv : bootBuiltins x = some u) (h : Q u s)
    (hn : x ≠ "__name__" := by decide) (hd : (x == ("__debug__" : Str)) = false := by decide) : wpAny (model X.prog X.w) X.A (eval (.Name x pos) X.env) Q E s := by
  obtain ⟨mb, h1, h2⟩ := I.mod.blt
  exact Calls.Name_function_global I.ok.kind hg (Calls.loadGlobal_builtin (by rw [I.ok.glob]; exact I.mod.glob.keeps I.bk) hm (by rw [I.ok.blt]; exact h1.keeps I.bk) ((h2 x hn).trans hv) h) hd
theorem pe_glob {x : Str} {v : V} {u : Value} {pos : Pos} (hg : Gl X x) (hm : X.mg x = some u) (r : RelV v u) (hd : (x == ("__debug__" : Str)) = false := by decide) : PE X (.Name x pos) (tC v) :=
  fun _ _ _ H _ I h => ld_glob I hg hm ⟨v, H, I, r, h⟩ hd
theorem pe_bltn {x : Str} {v : V} {u : Value} {pos : Pos} (hg : Gl X x) (hm : X.mg x = none) (hv : bootBuiltins x = some u) (r : RelV v u) (hn : x ≠ "__name__" := by decide) (hd : (x == ("__debug__" : Str)) = false := by decide) : PE X (.Name x pos) (tC v) :=
  fun _ _ _ H _ I h => ld_blt I hg hm hv ⟨v, H, I, r, h⟩ hn hd
variable {a b : Expr} {ta tb : TE} {pos : Pos}
noncomputable def PC (X : Cx) (op : CmpOp) (a b : Expr) (t : TE) : Prop :=
  ∀ (pins : List (Addr × Obj)) (s : Shared) (σ : St) (H : Hp) (Q : VK), Inv X pins σ H s → t σ H Q →
    wpAny (model X.prog X.w) X.A (eval a X.env) (fun v s₁ => wpAny (model X.prog X.w) X.A (eval b X.env) (fun u s₂ => wpAny (model X.prog X.w) X.A (compareOp op v u) (EP X pins σ Q) X.xe s₂) X.xe s₁) X.xe s
noncomputable def tB (t : TE) : TT := fun σ H Q => t σ H fun x H1 => ∃ c, x = .bl c ∧ Q c H1
theorem pt_cmp {op : CmpOp} {t : TE} (h : PC X op a b t) (h1 : behindInMarks op b = false := by first | exact nobehind _ (by decide) (by decide) | rfl) : PT X (.Compare a [op] [b] pos) (tB t) := by
  intro pins s σ H Q I hw
  refine wpAny_isTrue_Compare1 (thn (h pins s σ H _ I hw) fun v s1 h1 => thn h1 fun u s2 h2 => thn h2 fun c s3 ⟨x, H1, I1, r1, q1⟩ => ?_) h1
  obtain ⟨d, rfl, q⟩ := q1
  cases r1
  exact wpAny_truthy_bool ⟨H1, I1, q⟩
variable {tA tB' : TT} {rest : List Expr}
noncomputable def tAnd (t u : TT) : TT := fun σ H Q => t σ H fun c H1 => if c = true then u σ H1 Q else Q false H1
noncomputable def tOr (t u : TT) : TT := fun σ H Q => t σ H fun c H1 => if c = true then Q true H1 else u σ H1 Q
noncomputable def tNot (t : TT) : TT := fun σ H Q => t σ H fun c H1 => Q (!c) H1
theorem pw_and1 (ha : PT X a tA) : PW X (.BoolOp .And [a] pos) tA := by
  intro wh pins s σ H Q I h
  refine isTrue_and (thn (ha pins s σ H Q I h) fun c s1 e => ?_)
  cases c with
  | true => exact isTrue_and_nil e
  | false => exact e
theorem pw_or1 (ha : PT X a tA) : PW X (.BoolOp .Or [a] pos) tA := by
  intro wh pins s σ H Q I h
  refine isTrue_or (thn (ha pins s σ H Q I h) fun c s1 e => ?_)
  cases c with
  | false => exact isTrue_or_nil e
  | true => exact e
theorem pw_and (ha : PT X a tA) (hb : PW X (.BoolOp .And (b :: rest) pos) tB') : PW X (.BoolOp .And (a :: b :: rest) pos) (tAnd tA tB') := by
  intro wh pins s σ H Q I h
  refine isTrue_and (thn (ha pins s σ H _ I h) fun c s1 ⟨H1, I1, q1⟩ => ?_)
  cases c with
  | true => exact hb wh pins s1 σ H1 Q I1 q1
  | false => exact ⟨H1, I1, q1⟩
theorem pw_or (ha : PT X a tA) (hb : PW X (.BoolOp .Or (b :: rest) pos) tB') : PW X (.BoolOp .Or (a :: b :: rest) pos) (tOr tA tB') := by
  intro wh pins s σ H Q I h
  refine isTrue_or (thn (ha pins s σ H _ I h) fun c s1 ⟨H1, I1, q1⟩ => ?_)
  cases c with
  | true => exact ⟨H1, I1, q1⟩
  | false => exact hb wh pins s1 σ H1 Q I1 q1
theorem pt_not (ha : PT X a tA) : PT X (.UnaryOp .Not a pos) (tNot tA) := by
  intro pins s σ H Q I h
  exact isTrue_not (ha pins s σ H (fun c H1 => Q (!c) H1) I h)
noncomputable def tAndV (ta tb : TE) : TE := fun σ H Q => ta σ H fun x H1 => ∃ c, x = .bl c ∧ if c = true then tb σ H1 Q else Q (.bl false) H1
noncomputable def tNotV (ta : TE) : TE := fun σ H Q => ta σ H fun x H1 => ∃ c, x = .bl c ∧ Q (.bl (!c)) H1
theorem pe_one {op} {t : TE} (h : PE X a t) : PE X (.BoolOp op [a] pos) t := fun pins s σ H Q I hw => BoolOp_one (h pins s σ H Q I hw)
theorem pe_and (ha : PE X a ta) (hb : PE X (.BoolOp .And (b :: rest) pos) tb) : PE X (.BoolOp .And (a :: b :: rest) pos) (tAndV ta tb) := by
  intro pins s σ H Q I h
  refine BoolOp_and (thn (ha pins s σ H _ I h) fun v s1 ⟨x, H1, I1, r1, q1⟩ => ?_)
  obtain ⟨c, rfl, q1⟩ := q1
  cases r1
  refine wpAny_truthy_bool ?_
  cases c with
  | true => exact hb pins s1 σ H1 Q I1 q1
  | false => exact ⟨.bl false, H1, I1, rfl, q1⟩
theorem pe_not (ha : PE X a ta) : PE X (.UnaryOp .Not a pos) (tNotV ta) := by
  intro pins s σ H Q I h
  refine UnaryOp_ (thn (ha pins s σ H _ I h) fun v s1 ⟨x, H1, I1, r1, q1⟩ => ?_)
  obtain ⟨c, rfl, q1⟩ := q1
  cases r1
  exact not_of (wpAny_truthy_bool ⟨.bl (!c), H1, I1, rfl, q1⟩)
end
end L2
namespace L2
open PySem PySem.Spec PyProof.Rows
noncomputable def SqL (K : PySem.W.Frag) (H : Hp) (a : Addr) (xs : List V) : Prop :=
  Rd H a (.lst xs) ∨
    ∃ (o : Obj) (its : Array Value) (n : Nat), K.lookup a = some o ∧ o.cls = .type "list" ∧ o.dict = none ∧ o.data = .seq its n ∧ its.size ≤ sizeLine ∧ Vals xs its.toList
noncomputable def SqT (K : PySem.W.Frag) (H : Hp) (a : Addr) (xs : List V) : Prop :=
  Rd H a (.tup xs) ∨
    ∃ (o : Obj) (its : Array Value) (n : Nat), K.lookup a = some o ∧ o.cls = .type "tuple" ∧ o.data = .seq its n ∧ its.size ≤ sizeLine ∧ Vals xs its.toList
noncomputable def absV : Value → Option V
  | .none => some .non
  | .bool b => some (.bl b)
  | .int i _ => some (.int i)
  | .str x _ => some (.str x)
  | .bytes b _ => some (.byt b)
  | .float b _ => some (.flt b)
  | .ref a => some (.ref a)
  | .type n => some (.ty n)
  | _ => none
theorem RelV.abs {x : V} {u : Value} (r : RelV x u) : absV u = some x := by
  cases x with
  | non => cases r; rfl
  | bl _ => cases r; rfl
  | int _ => obtain ⟨t, rfl⟩ := r; rfl
  | str _ => obtain ⟨t, rfl⟩ := r; rfl
  | byt _ => obtain ⟨t, rfl⟩ := r; rfl
  | flt _ => obtain ⟨t, rfl⟩ := r; rfl
  | ref _ => cases r; rfl
  | ty _ => cases r; rfl
theorem RelV.inj {x y : V} {u : Value} (r : RelV x u) (q : RelV y u) : x = y := Option.some.inj (r.abs.symm.trans q.abs)
theorem Vals.inj : ∀ {xs ys : List V} {us : List Value}, Vals xs us → Vals ys us → xs = ys
  | _, _, _, .nil, .nil => rfl
  | _, _, _, .cons r t, .cons r' t' => by rw [r.inj r', Vals.inj t t']
section
variable {X : Cx} {pins : List (Addr × Obj)} {σ : St} {H : Hp} {s : Shared} {a : Addr} {xs ys : List V}
theorem SqL.of {K : PySem.W.Frag} (h : H a = some (.lst xs)) : SqL K H a xs := .inl (.inl h)
theorem SqT.of {K : PySem.W.Frag} (h : H a = some (.tup xs)) : SqT K H a xs := .inl (.inl h)
theorem Inv.list (I : Inv X pins σ H s) (h : SqL X.K H a xs) : ∃ its : List Value, Vals xs its ∧ PlainL s.heap a its.toArray ∧ xs.length ≤ sizeLine := by
  rcases h with h | ⟨o, its, n, hk, hc, hd, hs, hz, r⟩
  · obtain ⟨z, its, n, r, e⟩ := h.ok I.hok
    exact ⟨its, r, ⟨_, n, e, rfl, rfl, rfl⟩, z⟩
  · refine ⟨its.toList, r, ⟨o, n, I.kIn a o hk, hc, hd, by simpa using hs⟩, ?_⟩
    have e := r.length
    simp only [Array.length_toList] at e
    omega
theorem Inv.tuple (I : Inv X pins σ H s) (h : SqT X.K H a xs) : ∃ its : List Value, Vals xs its ∧ IsTup s.heap a its.toArray ∧ xs.length ≤ sizeLine := by
  rcases h with h | ⟨o, its, n, hk, hc, hs, hz, r⟩
  · obtain ⟨z, its, r, p⟩ := h.ok I.hok
    exact ⟨its, r, p, z⟩
  · refine ⟨its.toList, r, ⟨o, I.kIn a o hk, hc, n, by simpa using hs⟩, ?_⟩
    have e := r.length
    simp only [Array.length_toList] at e
    omega
theorem Inv.list_inj (I : Inv X pins σ H s) (h : SqL X.K H a xs) (h' : SqL X.K H a ys) : xs = ys := by
  obtain ⟨its, r, ⟨o, n, e, _, _, d⟩, _⟩ := I.list h
  obtain ⟨its', r', ⟨o', n', e', _, _, d'⟩, _⟩ := I.list h'
  rw [e] at e'; cases e'
  rw [d] at d'
  injection d' with d1 _
  have : its = its' := by simpa using congrArg Array.toList d1
  subst this
  exact r.inj r'
theorem Inv.tuple_inj (I : Inv X pins σ H s) (h : SqT X.K H a xs) (h' : SqT X.K H a ys) : xs = ys := by
  obtain ⟨its, r, ⟨o, e, _, n, d⟩, _⟩ := I.tuple h
  obtain ⟨its', r', ⟨o', e', _, n', d'⟩, _⟩ := I.tuple h'
  rw [e] at e'; cases e'
  rw [d] at d'
  injection d' with d1 _
  have : its = its' := by simpa using congrArg Array.toList d1
  subst this
  exact r.inj r'
end
noncomputable abbrev Cx.wish (X : Cx) (E : Value → Shared → Prop) : Cx := { X with xe := E }
noncomputable abbrev Cx.nox (X : Cx) : Cx := X.wish fun _ _ => False
theorem Cx.Ok.wish {X : Cx} (ok : X.Ok) (E : Value → Shared → Prop) : (X.wish E).Ok :=
  ⟨ok.mod, ok.kind, ok.glob, ok.blt, ok.above, ok.inj, ok.has, ok.cab, ok.hd, ok.frames, ok.stk, ok.exf, ok.bs, ok.bsz, ok.noex, ok.exfs, ok.funs, ok.frf⟩
theorem Cx.Ok.unwish {X : Cx} {E : Value → Shared → Prop} (ok : (X.wish E).Ok) : X.Ok :=
  ⟨ok.mod, ok.kind, ok.glob, ok.blt, ok.above, ok.inj, ok.has, ok.cab, ok.hd, ok.frames, ok.stk, ok.exf, ok.bs, ok.bsz, ok.noex, ok.exfs, ok.funs, ok.frf⟩
section
variable {X : Cx} {pins : List (Addr × Obj)} {σ : St} {H : Hp} {s : Shared} {E : Value → Shared → Prop}
theorem Inv.wish (I : Inv X pins σ H s) (E : Value → Shared → Prop) : Inv (X.wish E) pins σ H s := ⟨I.ok.wish E, I.os, I.bare, I.base, I.loc, I.cell, I.free, I.freeC, I.pin, I.hok, I.len⟩
theorem Inv.unwish (I : Inv (X.wish E) pins σ H s) : Inv X pins σ H s := ⟨I.ok.unwish, I.os, I.bare, I.base, I.loc, I.cell, I.free, I.freeC, I.pin, I.hok, I.len⟩
theorem SP.unwish {D : Ends} {f : Flow} {s' : Shared} (h : SP (X.wish E) pins D f s') : SP X pins D f s' := by
  cases f with
  | next => obtain ⟨σ', H', I, q⟩ := h; exact ⟨σ', H', I.unwish, q⟩
  | brk => obtain ⟨σ', H', I, q⟩ := h; exact ⟨σ', H', I.unwish, q⟩
  | cont => obtain ⟨σ', H', I, q⟩ := h; exact ⟨σ', H', I.unwish, q⟩
  | ret u => obtain ⟨v, σ', H', I, r, q⟩ := h; exact ⟨v, σ', H', I.unwish, r, q⟩
theorem PSs.nox {st : List Stmt} {t : TS} (h : PSs X.nox st t) : PSs X st t := fun pins s σ H D I hw =>
  wpAny_mono (h pins s σ H D (I.wish _) hw) (fun _ _ q => q.unwish) fun _ _ z => False.elim z
end
section
variable {X : Cx} {st : Stmt} {rest : List Stmt} {t u : TS} {e : Expr} {te : TE} {pos : Pos}
noncomputable def tNext : TS := fun D σ H => D.nx σ H
noncomputable def tSeq (t u : TS) : TS := fun D σ H => t { D with nx := u D } σ H
theorem pss_nil : PSs X [] tNext := fun _ _ σ H _ I h => wpAny_execs_nil ⟨σ, H, I, h⟩
theorem pss_cons (h1 : PS X st t) (h2 : PSs X rest u) : PSs X (st :: rest) (tSeq t u) := by
  intro pins s σ H D I h
  refine wpAny_execs_cons (thn (h1 pins s σ H { D with nx := u D } I h) fun f s1 q => ?_)
  cases f with
  | next =>
    obtain ⟨σ', H', I', q⟩ := q
    exact h2 pins s1 σ' H' D I' q
  | ret v => exact q
  | brk => exact q
  | cont => exact q
theorem pss_one (h1 : PS X st t) : PSs X [st] t := by
  intro pins s σ H D I h
  refine wpAny_execs_cons (thn (h1 pins s σ H D I h) fun f s1 q => ?_)
  cases f with
  | next => exact wpAny_execs_nil q
  | ret v => exact q
  | brk => exact q
  | cont => exact q
theorem Inv.quiet {pins : List (Addr × Obj)} {σ : St} {H : Hp} {s : Shared} (I : Inv X pins σ H s) : interactive X.env = false := by simp [interactive, I.ok.kind]
noncomputable def tDrop (te : TE) : TS := fun D σ H => te σ H fun _ H1 => D.nx σ H1
theorem ps_expr (he : PE X e te) (hs : swapsWith e none pos.line X.env = pure false := by rfl) : PS X (.Expr e pos) (tDrop te) := by
  intro pins s σ H D I h
  exact wpAny_Expr_any (thn (he pins s σ H _ I h) fun v s1 ⟨x, H1, I1, r1, q1⟩ => ⟨σ, H1, I1, q1⟩) I.quiet hs
noncomputable def tRet (te : TE) : TS := fun D σ H => te σ H D.rt
theorem ps_ret (he : PE X e te) : PS X (.Return (some e) pos) (tRet te) := by
  intro pins s σ H D I h
  exact wpAny_Return_some (thn (he pins s σ H _ I h) fun v s1 ⟨x, H1, I1, r1, q1⟩ => ⟨x, σ, H1, I1, r1, q1⟩)
noncomputable def tIfS (c : TT) (t u : TS) : TS := fun D σ H => c σ H fun b H1 => if b = true then t D σ H1 else u D σ H1
theorem ps_if {c : Expr} {a b : List Stmt} {tc : TT} (hc : PT X c tc) (ha : PSs X a t) (hb : PSs X b u) : PS X (.If c a b pos) (tIfS tc t u) := by
  intro pins s σ H D I h
  refine wpAny_If (thn (hc pins s σ H _ I h) fun d s1 ⟨H1, I1, q1⟩ => ?_)
  cases d with
  | true => exact ha pins s1 σ H1 D I1 q1
  | false => exact hb pins s1 σ H1 D I1 q1
end
noncomputable abbrev TG := V → St → Hp → (St → Hp → Prop) → Prop
noncomputable def PG (X : Cx) (target : Expr) (t : TG) : Prop :=
  ∀ (pins : List (Addr × Obj)) (s : Shared) (σ : St) (H : Hp) (v : V) (u : Value) (Q : St → Hp → Prop), Inv X pins σ H s → RelV v u → t v σ H Q →
    wpAny (model X.prog X.w) X.A (assign target X.env u) (fun _ s' => ∃ σ' H', Inv X pins σ' H' s' ∧ Q σ' H') X.xe s
noncomputable abbrev TSet := V → V → V → Hp → (Hp → Prop) → Prop
noncomputable def PSet (X : Cx) (t : TSet) : Prop :=
  ∀ (pins : List (Addr × Obj)) (s : Shared) (σ : St) (H : Hp) (o i v : V) (ov iv u : Value) (Q : Hp → Prop), Inv X pins σ H s → RelV o ov → RelV i iv → RelV v u → t o i v H Q →
    wpAny (model X.prog X.w) X.A (setItem ov iv u) (fun _ s' => ∃ H', Inv X pins σ H' s' ∧ Q H') X.xe s
section
variable {X : Cx} {pos : Pos}
noncomputable def gName (i : Nat) : TG := fun v σ H Q => Q (σ.set i (some v)) H
theorem pg_name {i : Nat} {x : Str} (hN : X.N.Nodup) (hi : X.N[i]? = some x) (hx : Loc X.env.scope x) (hf : X.fn x = true ∨ X.env.scope.names.lookup x = some .local := by first | exact .inl rfl | exact .inr rfl | assumption) : PG X (.Name x pos) (gName i) := by
  intro pins s σ H v u Q I r h
  exact wpAny_assign_Name (store_ok I hN hi hx r (fun s' I' => ⟨_, H, I', h⟩) hf)
noncomputable def gSub (to ti : TE) (t : TSet) : TG := fun v σ H Q => to σ H fun o H1 => ti σ H1 fun i H2 => t o i v H2 fun H3 => Q σ H3
theorem pg_sub {o i : Expr} {to ti : TE} {t : TSet} (ho : PE X o to) (hi : PE X i ti) (hs : PSet X t)
    (ha : ∀ v, assign (.Subscript o i pos) X.env v = (do
      let ov ← holding [v] (eval o X.env)
      let iv ← holding [v, ov] (eval i X.env)
      standAt pos
      holding [v, ov, iv] (setItem ov iv v)
      release [v, ov, iv] []) := by intro _; rfl) : PG X (.Subscript o i pos) (gSub to ti t) := by
  intro pins s σ H v u Q I r h
  rw [ha]
  refine wpAny_bind (wpAny_holding (thn (ho pins s σ H _ I h) fun ov s1 ⟨x, H1, I1, r1, q1⟩ => ?_))
  refine wpAny_bind (wpAny_holding (thn (hi pins s1 σ H1 _ I1 q1) fun iv s2 ⟨y, H2, I2, r2, q2⟩ => ?_))
  refine wpAny_bind (wpAny_standAt (wpAny_bind (wpAny_holding (thn (hs pins s2 σ H2 x y v ov iv u _ I2 r1 r2 r q2) fun _ s3 ⟨H3, I3, q3⟩ => ?_))))
  exact wpAny_release ⟨σ, H3, I3, q3⟩
noncomputable def tAsg (te : TE) (g : TG) : TS := fun D σ H => te σ H fun x H1 => g x σ H1 D.nx
theorem ps_asg {tg e : Expr} {te : TE} {g : TG} (he : PE X e te) (hg : PG X tg g) (hs : swapsWithSole [tg] e pos.line X.env = pure false := by rfl) (hw : swappedStores [tg] e X.env = pure none := by rfl)
    (h1 : (assignEach [tg] X.env).map (·.2) = [assign tg X.env] := by rfl) : PS X (.Assign [tg] e pos) (tAsg te g) := by
  intro pins s σ H D I h
  refine wpAny_Assign_stores (thn (he pins s σ H _ I h) fun v s1 ⟨x, H1, I1, r1, q1⟩ => ?_) hs hw
  rw [h1]
  exact thn (hg pins s1 σ H1 x v _ I1 r1 q1) fun _ s2 q => q
theorem ps_set {i : Nat} {x : Str} {e : Expr} {te : TE} {pos' : Pos} (hN : X.N.Nodup) (hi : X.N[i]? = some x) (hx : Loc X.env.scope x) (he : PE X e te) (hs : swapsWith e (some (.Name x pos')) pos.line X.env = pure false := by rfl) (hf : X.fn x = true ∨ X.env.scope.names.lookup x = some .local := by first | exact .inl rfl | exact .inr rfl | assumption) :
    PS X (.Assign [.Name x pos'] e pos) (tAsg te (gName i)) := by
  intro pins s σ H D I h
  refine wpAny_Assign_Name (thn (he pins s σ H _ I h) fun v s1 ⟨y, H1, I1, r1, q1⟩ => ?_) hs
  exact store_ok I1 hN hi hx r1 (fun s2 I2 => ⟨_, H1, I2, q1⟩) hf
end
section
variable {X : Cx} {pos : Pos}
end
structure It where
  go : Nat → Hp → Prop
  yld : Nat → Hp → V → Hp → Prop
  stop : Nat → Hp → Prop
noncomputable def FpOk (X : Cx) (pins : List (Addr × Obj)) (H : Hp) (b : Addr) : Prop :=
  H b = none ∧ b ≠ X.env.locals ∧ b ∉ X.fs ∧ (b ∈ X.ex ∨ X.s₀.heap.objs.size ≤ b) ∧ (∀ x c, X.env.cells.lookup x = some c → c ≠ b) ∧ ∀ p ∈ X.pn ++ pins, p.1 ≠ b
theorem Inv.fpOk {X : Cx} {pins : List (Addr × Obj)} {σ : St} {H H' : Hp} {s : Shared} {b : Addr} (I : Inv X pins σ H s) (hb : s.heap.objs.size ≤ b) (hn : H' b = none) : FpOk X pins H' b := by
  refine ⟨hn, Nat.ne_of_gt (Nat.lt_of_lt_of_le I.lt hb), I.nofs hb, .inr (Nat.le_trans I.sz hb), fun x c e z => ?_, fun p hp z => ?_⟩
  · obtain ⟨v, q⟩ := I.cell x c e
    exact absurd (Nat.lt_of_lt_of_le q.lt (by rw [z]; exact hb)) (Nat.lt_irrefl _)
  · exact absurd (Nat.lt_of_lt_of_le (Heap.lt_size (I.pin p hp).1) (by rw [z]; exact hb)) (Nat.lt_irrefl _)
structure Turn (P : Program) (w : World) (K : PySem.W.Frag) (tg : Expr) (J : It) (fp : List Addr) (it : Addr) (tn : Nat → Heap → Prop) : Prop where
  mem : it ∈ fp
  obj : ∀ i h, tn i h → ∀ b ∈ fp, ∃ o, h.get? b = some o ∧ ∀ v, o.data ≠ .cell v
  keep : ∀ i h h', tn i h → (∀ b ∈ fp, ∀ o, h.get? b = some o → h'.get? b = some o) → tn i h'
  item : ∀ (X : Cx), X.prog = P → X.w = w → X.K = K → X.calm = true → ∀ (i : Nat) (pins : List (Addr × Obj)) (s : Shared) (σ : St) (H : Hp) (E : Value → Shared → Prop), Inv X pins σ H s → (∀ b ∈ fp, FpOk X pins H b) → tn i s.heap → J.go i H →
    wpAny (model P w) X.A (pyNext (.ref it)) (fun r s1 => ∃ u, r = some u ∧
      wpAny (model P w) X.A (letOwnedTupleGo tg (.ref it) u) (fun _ s2 => ∃ x H', Inv X pins σ H' s2 ∧ RelV x u ∧ J.yld i H x H' ∧ tn (i + 1) s2.heap ∧ ∀ b ∈ fp, H' b = none) E s1) E s
  done : ∀ (X : Cx), X.prog = P → X.w = w → X.K = K → X.calm = true → ∀ (i : Nat) (pins : List (Addr × Obj)) (s : Shared) (σ : St) (H : Hp) (E : Value → Shared → Prop), Inv X pins σ H s → (∀ b ∈ fp, FpOk X pins H b) → tn i s.heap → J.stop i H →
    wpAny (model P w) X.A (pyNext (.ref it)) (fun r s1 => r = none ∧ Inv X pins σ H s1) E s
  self : ∀ (A : Around) (i : Nat) (s : Shared) (Q : Value → Shared → Prop) (E : Value → Shared → Prop), tn i s.heap → Q (.ref it) s → wpAny (model P w) A (pyIter (.ref it)) Q E s
noncomputable abbrev TI := St → Hp → (It → Hp → Prop) → Prop
noncomputable def PIE (X : Cx) (pins : List (Addr × Obj)) (σ : St) (tg : Expr) (R : It → Hp → Prop) (itv : Value) (s2 : Shared) : Prop :=
  ∃ (it : Addr) (fp : List Addr) (tn : Nat → Heap → Prop) (J : It) (H' : Hp), itv = .ref it ∧ Inv X pins σ H' s2 ∧ Turn X.prog X.w X.K tg J fp it tn ∧ tn 0 s2.heap ∧ (∀ b ∈ fp, FpOk X pins H' b) ∧ R J H'
noncomputable def PI (X : Cx) (tg iter : Expr) (wi : TI) : Prop :=
  ∀ (pins : List (Addr × Obj)) (s : Shared) (σ : St) (H : Hp) (R : It → Hp → Prop), Inv X pins σ H s → wi σ H R →
    wpAny (model X.prog X.w) X.A (eval iter X.env) (fun v s1 => wpAny (model X.prog X.w) X.A (pyIter v) (PIE X pins σ tg R) X.xe s1) X.xe s
theorem go_of {M : Model} {A : Around} {E : Value → Shared → Prop} {s : Shared} {tg : Expr} {it : Addr} {u : Value} {o : Obj} {n : String} {vs : Array Value} {Q : Unit → Shared → Prop} (ho : s.heap.get? it = some o) (hc : o.cls = .type n) (hd : o.data = .fields vs)
    (hn : ["enumerate", "zip", "dict_itemiterator", "dict_reverseitemiterator", "odict_iterator", "itertools.zip_longest", "itertools.pairwise"].contains n = false) (hQ : Q () s) : wpAny M A (letOwnedTupleGo tg (.ref it) u) Q E s := by
  unfold letOwnedTupleGo
  cases tg <;> first
    | exact wpAny_pure hQ
    | (cases u <;> first
        | exact wpAny_pure hQ
        | (refine wpAny_bind (wpAny_load ho ?_)
           rw [hc, hd]
           show wpAny M A (if (["enumerate", "zip", "dict_itemiterator", "dict_reverseitemiterator", "odict_iterator", "itertools.zip_longest", "itertools.pairwise"].contains n && vs[0]? == some (rawInt _)) = true then _ else _) Q E s
           rw [if_neg (by intro h; rw [hn, Bool.false_and] at h; cases h)]
           exact wpAny_pure hQ))
noncomputable def Itl (K : PySem.W.Frag) (a : Addr) : It :=
  ⟨fun i H => ∃ xs x, SqL K H a xs ∧ xs[i]? = some x, fun i H x H' => H' = H ∧ ∀ xs, SqL K H a xs → xs[i]? = some x, fun i H => ∃ xs, SqL K H a xs ∧ xs.length ≤ i⟩
noncomputable def Itt (K : PySem.W.Frag) (a : Addr) : It :=
  ⟨fun i H => ∃ xs x, SqT K H a xs ∧ xs[i]? = some x, fun i H x H' => H' = H ∧ ∀ xs, SqT K H a xs → xs[i]? = some x, fun i H => ∃ xs, SqT K H a xs ∧ xs.length ≤ i⟩
noncomputable def Itr (lo : Int) (n : Nat) : It := ⟨fun i _ => i < n, fun i H x H' => H' = H ∧ x = .int (lo + i), fun i _ => n ≤ i⟩
theorem turn_list {P : Program} {w : World} {K : PySem.W.Frag} {tg : Expr} (a it : Addr) : Turn P w K tg (Itl K a) [it] it (fun i h => h.IsListIter it a i) where
  mem := by simp
  obj := fun i h st b hb => by
    have e : b = it := by simpa using hb
    subst e
    obtain ⟨o, e, c, d⟩ := st
    exact ⟨o, e, fun v z => by rw [d] at z; cases z⟩
  keep := fun i h h' st k => st.at fun o e => k it (by simp) o e
  item := by
    intro X hP hw hK hc i pins s σ H E I hf st hg
    subst hP hw hK
    obtain ⟨xs, x, hq, hx⟩ := hg
    obtain ⟨its, rv, p, hz⟩ := I.list hq
    obtain ⟨u, hu, ru⟩ := rv.get hx
    obtain ⟨f0, f1, f2, f3, f4, f5⟩ := hf it (by simp)
    refine wpAny_pyNext_list_item st p.isList (x := u) (by simpa using hu) fun h' st' sb => ?_
    have I1 : Inv X pins σ H { s with heap := h' } := I.turned (t' := s.toks) (fun b o hb e => (sb.2 b hb).trans e) f0 f1 f3 f4 f5
    obtain ⟨o, e, c, d⟩ := id st'
    exact ⟨u, rfl, go_of (s := { s with heap := h' }) e c d (by decide) ⟨x, H, I1, ru, ⟨rfl, fun ys hy => by rw [I.list_inj hy hq]; exact hx⟩, st', fun b hb => (hf b hb).1⟩⟩
  done := by
    intro X hP hw hK hc i pins s σ H E I hf st hg
    subst hP hw hK
    obtain ⟨xs, hq, hx⟩ := hg
    obtain ⟨its, rv, p, hz⟩ := I.list hq
    obtain ⟨f0, f1, f2, f3, f4, f5⟩ := hf it (by simp)
    have hl := rv.length
    exact wpAny_pyNext_list_end (I.ok.hd hc) st p.isList (by simp; omega) fun h' eb => ⟨rfl, I.turned (t' := s.toks) (fun b o hb e => eb b o hb e) f0 f1 f3 f4 f5⟩
  self := fun _ _ _ _ _ st h => wpAny_pyIter_listiter st h
theorem turn_tuple {P : Program} {w : World} {K : PySem.W.Frag} {tg : Expr} (a it : Addr) : Turn P w K tg (Itt K a) [it] it (fun i h => h.IsTupleIter it a i) where
  mem := by simp
  obj := fun i h st b hb => by
    have e : b = it := by simpa using hb
    subst e
    obtain ⟨o, e, c, d⟩ := st
    exact ⟨o, e, fun v z => by rw [d] at z; cases z⟩
  keep := fun i h h' st k => st.at fun o e => k it (by simp) o e
  item := by
    intro X hP hw hK hc i pins s σ H E I hf st hg
    subst hP hw hK
    obtain ⟨xs, x, hq, hx⟩ := hg
    obtain ⟨its, rv, p, hz⟩ := I.tuple hq
    obtain ⟨u, hu, ru⟩ := rv.get hx
    obtain ⟨f0, f1, f2, f3, f4, f5⟩ := hf it (by simp)
    refine wpAny_pyNext_tuple_item st (show s.heap.IsTuple a its.toArray from p) (x := u) (by simpa using hu) fun h' st' sb => ?_
    have I1 : Inv X pins σ H { s with heap := h' } := I.turned (t' := s.toks) (fun b o hb e => (sb.2 b hb).trans e) f0 f1 f3 f4 f5
    obtain ⟨o, e, c, d⟩ := id st'
    exact ⟨u, rfl, go_of (s := { s with heap := h' }) e c d (by decide) ⟨x, H, I1, ru, ⟨rfl, fun ys hy => by rw [I.tuple_inj hy hq]; exact hx⟩, st', fun b hb => (hf b hb).1⟩⟩
  done := by
    intro X hP hw hK hc i pins s σ H E I hf st hg
    subst hP hw hK
    obtain ⟨xs, hq, hx⟩ := hg
    obtain ⟨its, rv, p, hz⟩ := I.tuple hq
    obtain ⟨f0, f1, f2, f3, f4, f5⟩ := hf it (by simp)
    have hl := rv.length
    exact wpAny_pyNext_tuple_end (I.ok.hd hc) st (show s.heap.IsTuple a its.toArray from p) (by simp; omega) fun h' eb => ⟨rfl, I.turned (t' := s.toks) (fun b o hb e => eb b o hb e) f0 f1 f3 f4 f5⟩
  self := fun _ _ _ _ _ st h => wpAny_pyIter_tupleiter st h
theorem turn_range {P : Program} {w : World} {K : PySem.W.Frag} {tg : Expr} (it : Addr) (lo : Int) (n : Nat) : Turn P w K tg (Itr lo n) [it] it (fun i h => IsRangeIter h it (lo + (i : Nat) * 1) ((n : Int) - (i : Nat)) 1) where
  mem := by simp
  obj := fun i h st b hb => by
    have e : b = it := by simpa using hb
    subst e
    exact ⟨_, st, fun v z => by
      have z' : Data.fields _ = Data.cell v := z
      cases z'⟩
  keep := fun i h h' st k => k it (by simp) _ st
  item := by
    intro X hP hw hK hc i pins s σ H E I hf st hg
    subst hP hw hK
    obtain ⟨f0, f1, f2, f3, f4, f5⟩ := hf it (by simp)
    have W := Walks.range (prog := X.prog) (w := X.w) (I.ok.hd hc) it lo 1 n
    refine W.item i s _ _ hg st fun v h' tk hv st' kk => ?_
    obtain ⟨t, rfl⟩ := hv
    have I1 : Inv X pins σ H { s with heap := h', toks := tk } := I.turned (fun b o hb e => kk b o (by simpa using hb) e) f0 f1 f3 f4 f5
    refine ⟨_, rfl, go_of (s := { s with heap := h', toks := tk }) (n := "range_iterator") st' rfl rfl (by decide) ⟨.int (lo + i), H, I1, ⟨t, ?_⟩, ⟨rfl, rfl⟩, st', fun b hb => (hf b hb).1⟩⟩
    rw [Int.mul_one]
  done := by
    intro X hP hw hK hc i pins s σ H E I hf st hg
    subst hP hw hK
    obtain ⟨f0, f1, f2, f3, f4, f5⟩ := hf it (by simp)
    exact wpAny_pyNext_range_end (I.ok.hd hc) st (by have : n ≤ i := hg; omega) fun h' eb => ⟨rfl, I.turned (t' := s.toks) (fun b o hb e => eb b o hb e) f0 f1 f3 f4 f5⟩
  self := fun _ _ _ _ _ st h => wpAny_pyIter_rangeiter st h
end L2
namespace L2
open PySem PySem.Spec PyProof.Rows
section
variable {X : Cx} {tg : Expr}
noncomputable def iList (K : PySem.W.Frag) (tl : TE) : TI := fun σ H R => tl σ H fun x H1 => ∃ a, x = .ref a ∧ (∃ xs, SqL K H1 a xs) ∧ R (Itl K a) H1
theorem pi_list {l : Expr} {tl : TE} (hl : PE X l tl) : PI X tg l (iList X.K tl) := by
  intro pins s σ H R I h
  refine thn (hl pins s σ H _ I h) fun v s1 hq2 => ?_
  obtain ⟨x, H1, I1, r1, q1⟩ := hq2
  obtain ⟨a, e, ⟨xs, hq⟩, q⟩ := q1
  subst e
  cases r1
  obtain ⟨its, rv, p, hz⟩ := I1.list hq
  refine wpAny_pyIter_list p.isList ?_
  refine ⟨s1.heap.objs.size, [s1.heap.objs.size], _, _, H1, rfl, I1.kept (t' := s1.toks) fun b o e => Heap.get?_push_of_some _ e, turn_list a _, ⟨_, Heap.get?_push_size _ rfl, rfl, rfl⟩, fun b hb => ?_, q⟩
  have e : b = s1.heap.objs.size := by simpa using hb
  subst e
  exact I1.fpOk (Nat.le_refl _) (I1.hok.fresh (Nat.le_refl _))
theorem range_it {pins : List (Addr × Obj)} {σ : St} {H : Hp} {s : Shared} {R : It → Hp → Prop} {E : Value → Shared → Prop} {lo hi : Int} {t u v : Tok} {tk : Nat} (I : Inv X pins σ H s) (h1 : -(2 ^ 62) ≤ lo) (h2 : lo < 2 ^ 62) (h3 : -(2 ^ 62) ≤ hi) (h4 : hi < 2 ^ 62)
    (q : R (Itr lo (hi - lo).toNat) H) : wpAny (model X.prog X.w) X.A (pyIter (.ref s.heap.objs.size)) (PIE X pins σ tg R) E { s with heap := s.heap.push { cls := .type "range", data := .fields #[.int lo t, .int hi u, .int 1 v] }, toks := tk } := by
  refine wpAny_pyIter_range (IsRange.new ..) (small_one h1 h2 h3 h4) ?_
  have I1 : Inv X pins σ H { s with heap := s.heap.push { cls := .type "range", data := .fields #[.int lo t, .int hi u, .int 1 v] }, toks := tk } := I.kept fun b o e => Heap.get?_push_of_some _ e
  refine ⟨(s.heap.push { cls := .type "range", data := .fields #[.int lo t, .int hi u, .int 1 v] }).objs.size, [(s.heap.push { cls := .type "range", data := .fields #[.int lo t, .int hi u, .int 1 v] }).objs.size], _, _, H, rfl,
    I1.kept (t' := tk) fun b o e => Heap.get?_push_of_some _ e, turn_range _ lo (hi - lo).toNat, ?_, fun b hb => ?_, q⟩
  · have e1 : lo + ((0 : Nat) : Int) * 1 = lo := by simp
    have e2 : (((hi - lo).toNat : Nat) : Int) - ((0 : Nat) : Int) = Builtin.Range.rangeSize lo hi 1 := by rw [rangeSize_one]; split <;> omega
    show IsRangeIter _ _ (lo + ((0 : Nat) : Int) * 1) ((((hi - lo).toNat : Nat) : Int) - ((0 : Nat) : Int)) 1
    rw [e1, e2]
    exact Heap.get?_push_size _ rfl
  · have e : b = (s.heap.push { cls := .type "range", data := .fields #[.int lo t, .int hi u, .int 1 v] }).objs.size := by simpa using hb
    subst e
    exact I1.fpOk (Nat.le_refl _) (I1.hok.fresh (Nat.le_refl _))
noncomputable def iRng1 (ta : TA) : TI := fun σ H R => ta σ H fun vs H1 => ∃ j : Int, vs = [.int j] ∧ -(2 ^ 62) ≤ j ∧ j < 2 ^ 62 ∧ R (Itr 0 j.toNat) H1
theorem pi_range1 {a : Expr} {ta : TA} {p pos : Pos} (hg : Gl X "range") (hm : X.mg "range" = none) (ha : PA X [a] ta) (hs : starEach [a] X.env = [(false, eval a X.env)] := by rfl) : PI X tg (.Call (.Name "range" p) [a] [] pos) (iRng1 ta) := by
  intro pins s σ H R I h
  refine Call_ (ld_blt I hg hm boot_range (PyProof.Rows.callWith_type1 (thn (ha pos pins s σ H _ I h) fun us s1 ⟨vs, H1, I1, r1, q1⟩ => ?_) hs rfl))
  obtain ⟨j, e, q1, q2, q⟩ := q1
  subst e
  cases r1 with
  | cons r rr =>
    cases rr
    obtain ⟨t, rfl⟩ := r
    exact call_range_1 (range_it I1 (by omega) (by omega) q1 q2 (by simpa using q))
noncomputable def tFor (wi : TI) (g : TG) (tb : TS) : TS := fun D σ H => wi σ H fun J H1 => ∃ W : Nat → Nat → St → Hp → Prop, (∃ m, W 0 m σ H1) ∧ ∀ i m σ H, W i m σ H →
  (J.stop i H ∧ D.nx σ H) ∨ (J.go i H ∧ ∃ N : St → Hp → Prop, (∀ σ' H', N σ' H' → ∃ m', m' < m ∧ W (i + 1) m' σ' H') ∧ ∀ x H', J.yld i H x H' → g x σ H' fun σ2 H2 => tb { D with nx := N, ct := N, bk := D.nx } σ2 H2)
noncomputable def pinsAt (fp : List Addr) (h : Heap) : List (Addr × Obj) := fp.filterMap fun b => (h.get? b).map fun o => (b, o)
theorem mem_pinsAt {fp : List Addr} {h : Heap} {b : Addr} {o : Obj} (hb : b ∈ fp) (e : h.get? b = some o) : (b, o) ∈ pinsAt fp h := List.mem_filterMap.mpr ⟨b, hb, by rw [e]; rfl⟩
theorem of_pinsAt {fp : List Addr} {h : Heap} {p : Addr × Obj} (hp : p ∈ pinsAt fp h) : p.1 ∈ fp ∧ h.get? p.1 = some p.2 := by
  obtain ⟨b, hb, e⟩ := List.mem_filterMap.mp hp
  cases q : h.get? b with
  | none => rw [q] at e; cases e
  | some o =>
    rw [q] at e
    have e' : (b, o) = p := Option.some.inj e
    subst e'
    exact ⟨hb, q⟩
theorem Inv.pinned {pins : List (Addr × Obj)} {σ : St} {H : Hp} {s : Shared} {fp : List Addr} (I : Inv X pins σ H s) (hf : ∀ b ∈ fp, FpOk X pins H b) (ho : ∀ b ∈ fp, ∃ o, s.heap.get? b = some o ∧ ∀ v, o.data ≠ .cell v) : Inv X (pins ++ pinsAt fp s.heap) σ H s :=
  I.pins_of fun p hp => (List.mem_append.mp hp).elim (fun z => I.pin p (List.mem_append_right _ z)) fun z => by
    obtain ⟨hb, e⟩ := of_pinsAt z
    obtain ⟨f0, f1, f2, _⟩ := hf p.1 hb
    obtain ⟨o, e', d⟩ := ho p.1 hb
    rw [e] at e'; cases e'
    exact ⟨e, f0, f1, f2, d⟩
theorem Inv.unpinned {pins pl : List (Addr × Obj)} {σ : St} {H : Hp} {s : Shared} (I : Inv X (pins ++ pl) σ H s) : Inv X pins σ H s := I.pins_of fun p hp => I.pin p (List.mem_append_right _ (List.mem_append_left _ hp))
theorem ps_for {iter : Expr} {body : List Stmt} {wi : TI} {g : TG} {tb : TS} {pos : Pos} (hp : PassesOwn (model X.prog X.w) X.A X.env X.xe) (hc : X.calm = true) (hi : PI X tg iter wi) (hg : PG X tg g) (hb : PSs X body tb)
    (hs : ∀ x, foldedSetIterable iter X.env x = pure x := by intro _; rfl) : PS X (.For tg iter body [] pos) (tFor wi g tb) := by
  intro pins s σ H D I h
  refine wpAny_For (thn (hi pins s σ H _ I h) fun v s1 h1 => thn h1 fun itv s2 h2 => ?_) hs
  obtain ⟨it, fp, tn, J, H2, e, I2, T, st2, f2, W, ⟨m0, w0⟩, turn⟩ := h2
  subst e
  -- what stays true of the iterator's objects through the loop
  have stat : ∀ {H' : Hp}, (∀ b ∈ fp, H' b = none) → ∀ b ∈ fp, FpOk X pins H' b := fun hn b hb => ⟨hn b hb, (f2 b hb).2⟩
  refine codeAny_forLoop_any (fun n s' => ∃ i σ' H', Inv X pins σ' H' s' ∧ tn i s'.heap ∧ (∀ b ∈ fp, H' b = none) ∧ W i n σ' H') ?_ m0 ⟨0, σ, H2, I2, st2, fun b hb => (f2 b hb).1, w0⟩
  rintro n s3 ⟨i, σ3, H3, I3, st3, fr3, w3⟩
  rcases turn i n σ3 H3 w3 with ⟨stop, qn⟩ | ⟨go, N, hN, step⟩
  · refine wpAny_passesOwn hp (thn (T.done X rfl rfl rfl hc i pins s3 σ3 H3 X.xe I3 (stat fr3) st3 stop) fun r s4 ⟨hr, I4⟩ => ?_)
    subst hr
    exact wpAny_execs_nil ⟨σ3, H3, I4, qn⟩
  · refine wpAny_passesOwn hp (thn (T.item X rfl rfl rfl hc i pins s3 σ3 H3 X.xe I3 (stat fr3) st3 go) fun r s4 ⟨u, hr, h4⟩ => ?_)
    subst hr
    refine wpAny_passesOwn hp (thn h4 fun _ s5 ⟨x, H5, I5, r5, y5, st5, fr5⟩ => ?_)
    have I5' := I5.pinned (stat fr5) (T.obj _ _ st5)
    refine wpAny_passesOwn hp (thn (hg _ s5 σ3 H5 x u _ I5' r5 (step x H5 y5)) fun _ s6 ⟨σ6, H6, I6, q6⟩ => ?_)
    refine wpAny_passesOwn hp (thn (hb _ s6 σ6 H6 _ I6 q6) fun f s7 q7 => ?_)
    have again : ∀ {σ7 : St} {H7 : Hp}, Inv X (pins ++ pinsAt fp s5.heap) σ7 H7 s7 → N σ7 H7 → ∃ m, m < n ∧ ∃ i σ' H', Inv X pins σ' H' s7 ∧ tn i s7.heap ∧ (∀ b ∈ fp, H' b = none) ∧ W i m σ' H' := fun {σ7 H7} I7 n7 => by
      obtain ⟨m', hm, w7⟩ := hN σ7 H7 n7
      refine ⟨m', hm, i + 1, σ7, H7, I7.unpinned, T.keep _ _ _ st5 fun b hb o e => (I7.pin (b, o) (List.mem_append_right _ (List.mem_append_right _ (mem_pinsAt hb e)))).1, fun b hb => ?_, w7⟩
      obtain ⟨o, e, d⟩ := T.obj _ _ st5 b hb
      exact (I7.pin (b, o) (List.mem_append_right _ (List.mem_append_right _ (mem_pinsAt hb e)))).2.1
    cases f with
    | next => obtain ⟨σ7, H7, I7, n7⟩ := q7; exact again I7 n7
    | cont => obtain ⟨σ7, H7, I7, n7⟩ := q7; exact again I7 n7
    | brk => obtain ⟨σ7, H7, I7, q7⟩ := q7; exact ⟨σ7, H7, I7.unpinned, q7⟩
    | ret v => obtain ⟨x7, σ7, H7, I7, r7, q7⟩ := q7; exact ⟨x7, σ7, H7, I7.unpinned, r7, q7⟩
end
end L2
namespace L2
open PySem PySem.Spec PyProof.Rows
noncomputable abbrev R2 := V → V → Hp → VK → Prop
noncomputable def OpR (X : Cx) (f : Value → Value → Sem Value) (r : R2) : Prop :=
  ∀ (pins : List (Addr × Obj)) (s : Shared) (σ : St) (H : Hp) (x y : V) (v u : Value) (Q : VK), Inv X pins σ H s → RelV x v → RelV y u → r x y H Q →
    wpAny (model X.prog X.w) X.A (f v u) (EP X pins σ Q) X.xe s
noncomputable def CallR (X : Cx) (f : Value) (r : List V → Hp → VK → Prop) : Prop :=
  ∀ (pins : List (Addr × Obj)) (s : Shared) (σ : St) (H : Hp) (xs : List V) (us : List Value) (Q : VK), Inv X pins σ H s → Vals xs us → r xs H Q →
    wpAny (model X.prog X.w) X.A (call f us) (EP X pins σ Q) X.xe s
noncomputable def TruR (X : Cx) (r : V → Hp → (Bool → Hp → Prop) → Prop) : Prop :=
  ∀ (pins : List (Addr × Obj)) (s : Shared) (σ : St) (H : Hp) (x : V) (v : Value) (Q : Bool → Hp → Prop), Inv X pins σ H s → RelV x v → r x H Q →
    wpAny (model X.prog X.w) X.A (truthy v) (TP X pins σ Q) X.xe s
noncomputable def tOp (r : R2) (ta tb : TE) : TE := fun σ H Q => ta σ H fun x H1 => tb σ H1 fun y H2 => r x y H2 Q
noncomputable def rI (C : Int → Int → Prop) (g : Int → Int → V) : R2 := fun x y H Q => ∃ i j, x = .int i ∧ y = .int j ∧ C i j ∧ Q (g i j) H
noncomputable def rI0 (g : Int → Int → V) : R2 := fun x y H Q => ∃ i j, x = .int i ∧ y = .int j ∧ Q (g i j) H
section
variable {X : Cx} {a b c : Expr} {ta tb tc : TE} {pos : Pos}
theorem binT (ha : PE X a ta) (hb : PE X b tb) {pins : List (Addr × Obj)} {s : Shared} {σ : St} {H : Hp} {R : V → V → Hp → Prop} (I : Inv X pins σ H s)
    (h : ta σ H fun x H1 => tb σ H1 fun y H2 => R x y H2) {Q : Value → Shared → Prop} {f : Value → Value → Sem Value}
    (hf : ∀ v u s2 x y H2, Inv X pins σ H2 s2 → RelV x v → RelV y u → R x y H2 → wpAny (model X.prog X.w) X.A (f v u) Q X.xe s2) :
    wpAny (model X.prog X.w) X.A (eval a X.env) (fun v s₁ => wpAny (model X.prog X.w) X.A (eval b X.env) (fun u s₂ => wpAny (model X.prog X.w) X.A (f v u) Q X.xe s₂) X.xe s₁) X.xe s := by
  refine thn (ha pins s σ H _ I h) fun v s1 hq3 => ?_
  obtain ⟨x, H1, I1, r1, q1⟩ := hq3
  refine thn (hb pins s1 σ H1 _ I1 q1) fun u s2 hq4 => ?_
  obtain ⟨y, H2, I2, r2, q2⟩ := hq4
  exact hf v u s2 x y H2 I2 r1 r2 q2
theorem pe_op {op : Operator} {r : R2} (ho : OpR X (binaryOp op) r) (ha : PE X a ta) (hb : PE X b tb) : PE X (.BinOp a op b pos) (tOp r ta tb) := by
  intro pins s σ H Q I h
  exact wpAny_BinOp (binT ha hb I h fun v u s2 x y H2 I2 rx ry q => ho pins s2 σ H2 x y v u Q I2 rx ry q)
theorem opI {f : Value → Value → Sem Value} {C : Int → Int → Prop} {g : Int → Int → Int}
    (rule : ∀ (i j : Int) (t u : Tok) (s : Shared) (Q : Value → Shared → Prop) (E : Value → Shared → Prop), C i j → Q (.int (g i j) s.toks) { s with toks := s.toks + 1 } → wpAny (model X.prog X.w) X.A (f (.int i t) (.int j u)) Q E s) :
    OpR X f (rI C fun i j => .int (g i j)) := by
  intro pins s σ H x y v u Q I rx ry h
  obtain ⟨i, j, rfl, rfl, hc, q⟩ := h
  obtain ⟨t, rfl⟩ := rx
  obtain ⟨t', rfl⟩ := ry
  exact rule i j t t' s _ _ hc ⟨.int (g i j), H, I.tok _, ⟨_, rfl⟩, q⟩
theorem opI0 {f : Value → Value → Sem Value} {g : Int → Int → Int}
    (rule : ∀ (i j : Int) (t u : Tok) (s : Shared) (Q : Value → Shared → Prop) (E : Value → Shared → Prop), Q (.int (g i j) s.toks) { s with toks := s.toks + 1 } → wpAny (model X.prog X.w) X.A (f (.int i t) (.int j u)) Q E s) :
    OpR X f (rI0 fun i j => .int (g i j)) := by
  intro pins s σ H x y v u Q I rx ry h
  obtain ⟨i, j, rfl, rfl, q⟩ := h
  obtain ⟨t, rfl⟩ := rx
  obtain ⟨t', rfl⟩ := ry
  exact rule i j t t' s _ _ ⟨.int (g i j), H, I.tok _, ⟨_, rfl⟩, q⟩
theorem opB0 {f : Value → Value → Sem Value} {g : Int → Int → Bool}
    (rule : ∀ (i j : Int) (t u : Tok) (s : Shared) (Q : Value → Shared → Prop) (E : Value → Shared → Prop), Q (.bool (g i j)) s → wpAny (model X.prog X.w) X.A (f (.int i t) (.int j u)) Q E s) :
    OpR X f (rI0 fun i j => .bl (g i j)) := by
  intro pins s σ H x y v u Q I rx ry h
  obtain ⟨i, j, rfl, rfl, q⟩ := h
  obtain ⟨t, rfl⟩ := rx
  obtain ⟨t', rfl⟩ := ry
  exact rule i j t t' s _ _ ⟨.bl (g i j), H, I, rfl, q⟩
noncomputable def CDiv (i j : Int) : Prop := 0 < j ∧ j < 1073741824
noncomputable def CPow (i j : Int) : Prop := 0 ≤ j ∧ j ≤ 1000000 ∧ i.natAbs < 2 ^ 64
noncomputable def CMul (i j : Int) : Prop := (-(2 ^ 64) < i ∧ i < 2 ^ 64) ∨ (-(2 ^ 64) < j ∧ j < 2 ^ 64)
theorem CMul.ok {i j : Int} (h : CMul i j) : IntMulOk i j := by
  rcases h with ⟨h1, h2⟩ | ⟨h1, h2⟩
  · exact .of_left (intBits_le_64 h1 h2)
  · exact .of_right (intBits_le_64 h1 h2)
theorem op_add : OpR X (binaryOp .Add) (rI0 fun i j => .int (i + j)) := opI0 fun _ _ _ _ _ _ _ q => add_int q
theorem op_sub : OpR X (binaryOp .Sub) (rI0 fun i j => .int (i - j)) := opI0 fun _ _ _ _ _ _ _ q => sub_int q
theorem op_fdiv : OpR X (binaryOp .FloorDiv) (rI CDiv fun i j => .int (i / j)) := opI fun i j _ _ _ _ _ hc q => by
  have h1 : (0 : Int) < j := hc.1
  have h2 : j < 1073741824 := hc.2
  exact floordiv_int (by omega) (by rw [Int.fdiv_eq_ediv_of_nonneg i (by omega)]; exact q) (.inl (PyProof.noPylong_small (by omega)))
theorem op_mod : OpR X (binaryOp .Mod) (rI (fun _ j => 0 < j) fun i j => .int (i % j)) := opI fun i j _ _ _ _ _ hc q => by
  have h1 : (0 : Int) < j := hc
  exact mod_int' (by omega) (by rw [Int.fmod_eq_emod_of_nonneg i (by omega)]; exact q)
theorem op_pow : OpR X (binaryOp .Pow) (rI CPow fun i j => .int (i ^ j.toNat)) := opI fun _ _ _ _ _ _ _ hc q => pow_int_small hc.1 hc.2.1 hc.2.2 q
end
noncomputable def scal : V → V → Bool
  | .non, .non => true | .non, .int _ => true | .int _, .non => true | .non, .bl _ => true | .bl _, .non => true | .non, .str _ => true | .str _, .non => true
  | .int _, .int _ => true | .bl _, .bl _ => true | .str _, .str _ => true | .byt _, .byt _ => true
  | .int _, .str _ => true | .str _, .int _ => true | .bl _, .str _ => true | .str _, .bl _ => true
  | _, _ => false
noncomputable def rEq : R2 := fun x y H Q => scal x y = true ∧ Q (.bl (decide (x = y))) H
noncomputable def rNe : R2 := fun x y H Q => scal x y = true ∧ Q (.bl (!decide (x = y))) H
theorem dec_int {i j : Int} : decide (V.int i = V.int j) = (i == j) := by
  rw [Bool.eq_iff_iff]
  simp
theorem dec_bl {i j : Bool} : decide (V.bl i = V.bl j) = (i == j) := by
  rw [Bool.eq_iff_iff]
  simp
theorem dec_str {i j : Str} : decide (V.str i = V.str j) = (i == j) := by
  rw [Bool.eq_iff_iff]
  simp
theorem dec_byt {i j : Array UInt8} : decide (V.byt i = V.byt j) = (i.toList == j.toList) := by
  rw [Bool.eq_iff_iff]
  cases i
  cases j
  simp
section
variable {X : Cx} {a b c : Expr} {ta tb tc : TE} {pos : Pos}
theorem fin_bl {pins : List (Addr × Obj)} {σ : St} {H : Hp} {s : Shared} {Q : VK} {k k' : Bool} (I : Inv X pins σ H s) (q : Q (.bl k) H) (e : k = k') : EP X pins σ Q (.bool k') s := by
  subst e
  exact ⟨.bl k, H, I, rfl, q⟩
theorem op_eq : OpR X (compareOp .Eq) rEq := by
  intro pins s σ H x y v u Q I rx ry h
  obtain ⟨hs, q⟩ := h
  cases x with
  | non =>
    cases rx
    cases y with
    | non => cases ry; exact PySem.EqNone.eq_none_none (fin_bl I q (by simp))
    | bl j => cases ry; exact PySem.EqNone.eq_none_bool (fin_bl I q (by simp))
    | int j => obtain ⟨t', rfl⟩ := ry; exact PySem.EqNone.eq_none_int (fin_bl I q (by simp))
    | str j => obtain ⟨t', rfl⟩ := ry; exact PySem.EqNone.eq_none_str (fin_bl I q (by simp))
    | _ => exact absurd (show false = true from hs) Bool.false_ne_true
  | bl i =>
    cases rx
    cases y with
    | non => cases ry; exact PySem.EqNone.eq_bool_none (fin_bl I q (by simp))
    | bl j => cases ry; exact eq_bool (fin_bl I q dec_bl)
    | str j => obtain ⟨t', rfl⟩ := ry; exact PySem.EqMixed.eq_bool_str (fin_bl I q (by simp))
    | _ => exact absurd (show false = true from hs) Bool.false_ne_true
  | int i =>
    obtain ⟨t, rfl⟩ := rx
    cases y with
    | non => cases ry; exact PySem.EqNone.eq_int_none (fin_bl I q (by simp))
    | int j => obtain ⟨t', rfl⟩ := ry; exact eq_int (fin_bl I q dec_int)
    | str j => obtain ⟨t', rfl⟩ := ry; exact PySem.EqMixed.eq_int_str (fin_bl I q (by simp))
    | _ => exact absurd (show false = true from hs) Bool.false_ne_true
  | str i =>
    obtain ⟨t, rfl⟩ := rx
    cases y with
    | non => cases ry; exact PySem.EqNone.eq_str_none (fin_bl I q (by simp))
    | bl j => cases ry; exact PySem.EqMixed.eq_str_bool (fin_bl I q (by simp))
    | int j => obtain ⟨t', rfl⟩ := ry; exact PySem.EqMixed.eq_str_int (fin_bl I q (by simp))
    | str j => obtain ⟨t', rfl⟩ := ry; exact eq_str (fin_bl I q dec_str)
    | _ => exact absurd (show false = true from hs) Bool.false_ne_true
  | byt i =>
    obtain ⟨t, rfl⟩ := rx
    cases y with
    | byt j => obtain ⟨t', rfl⟩ := ry; exact PySem.W.eq_bytes (fin_bl I q dec_byt)
    | _ => exact absurd (show false = true from hs) Bool.false_ne_true
  | _ => cases y <;> exact absurd (show false = true from hs) Bool.false_ne_true
theorem op_ne : OpR X (compareOp .NotEq) rNe := by
  intro pins s σ H x y v u Q I rx ry h
  obtain ⟨hs, q⟩ := h
  cases x with
  | non =>
    cases rx
    cases y with
    | non => cases ry; exact PySem.EqNone.ne_none_none (fin_bl I q (by simp))
    | bl j => cases ry; exact PySem.EqNone.ne_none_bool (fin_bl I q (by simp))
    | int j => obtain ⟨t', rfl⟩ := ry; exact PySem.EqNone.ne_none_int (fin_bl I q (by simp))
    | str j => obtain ⟨t', rfl⟩ := ry; exact PySem.EqNone.ne_none_str (fin_bl I q (by simp))
    | _ => exact absurd (show false = true from hs) Bool.false_ne_true
  | bl i =>
    cases rx
    cases y with
    | non => cases ry; exact PySem.EqNone.ne_bool_none (fin_bl I q (by simp))
    | bl j => cases ry; exact ne_bool (fin_bl I q (congrArg not dec_bl))
    | str j => obtain ⟨t', rfl⟩ := ry; exact PySem.EqMixed.ne_bool_str (fin_bl I q (by simp))
    | _ => exact absurd (show false = true from hs) Bool.false_ne_true
  | int i =>
    obtain ⟨t, rfl⟩ := rx
    cases y with
    | non => cases ry; exact PySem.EqNone.ne_int_none (fin_bl I q (by simp))
    | int j => obtain ⟨t', rfl⟩ := ry; exact ne_int (fin_bl I q (congrArg not dec_int))
    | str j => obtain ⟨t', rfl⟩ := ry; exact PySem.EqMixed.ne_int_str (fin_bl I q (by simp))
    | _ => exact absurd (show false = true from hs) Bool.false_ne_true
  | str i =>
    obtain ⟨t, rfl⟩ := rx
    cases y with
    | non => cases ry; exact PySem.EqNone.ne_str_none (fin_bl I q (by simp))
    | bl j => cases ry; exact PySem.EqMixed.ne_str_bool (fin_bl I q (by simp))
    | int j => obtain ⟨t', rfl⟩ := ry; exact PySem.EqMixed.ne_str_int (fin_bl I q (by simp))
    | str j => obtain ⟨t', rfl⟩ := ry; exact ne_str (fin_bl I q (congrArg not dec_str))
    | _ => exact absurd (show false = true from hs) Bool.false_ne_true
  | byt i =>
    obtain ⟨t, rfl⟩ := rx
    cases y with
    | byt j => obtain ⟨t', rfl⟩ := ry; exact PySem.W.ne_bytes (fin_bl I q (congrArg not dec_byt))
    | _ => exact absurd (show false = true from hs) Bool.false_ne_true
  | _ => cases y <;> exact absurd (show false = true from hs) Bool.false_ne_true
theorem op_lt : OpR X (compareOp .Lt) (rI0 fun i j => .bl (decide (i < j))) := opB0 fun _ _ _ _ _ _ _ q => lt_int q
theorem op_gt : OpR X (compareOp .Gt) (rI0 fun i j => .bl (decide (j < i))) := opB0 fun _ _ _ _ _ _ _ q => gt_int q
theorem op_ge : OpR X (compareOp .GtE) (rI0 fun i j => .bl (decide (j ≤ i))) := opB0 fun _ _ _ _ _ _ _ q => ge_int q
theorem op_isN : OpR X (compareOp .Is) (fun x y H Q => y = .non ∧ Q (.bl (decide (x = .non))) H) := by
  intro pins s σ H x y v u Q I rx ry h
  obtain ⟨rfl, q⟩ := h
  cases ry
  refine is_none_gen (fin_bl I q ?_)
  cases x <;> first
    | (cases rx; rfl)
    | (obtain ⟨t, rfl⟩ := rx; rfl)
theorem OpR.or {f : Value → Value → Sem Value} {r r' : R2} (h : OpR X f r) (h' : OpR X f r') : OpR X f (fun x y H Q => r x y H Q ∨ r' x y H Q) := by
  intro pins s σ H x y v u Q I rx ry q
  rcases q with q | q
  · exact h pins s σ H x y v u Q I rx ry q
  · exact h' pins s σ H x y v u Q I rx ry q
theorem nomark (b : Expr) {op : CmpOp} (h : op ≠ .In := by decide) (h2 : op ≠ .NotIn := by decide) : behindInMarks op b = false := by
  have e1 : (op == CmpOp.In) = false := by cases op <;> first | rfl | exact absurd rfl h
  have e2 : (op == CmpOp.NotIn) = false := by cases op <;> first | rfl | exact absurd rfl h2
  cases b <;> simp [behindInMarks, e1, e2]
theorem pe_cmpR {op : CmpOp} {r : R2} (ho : OpR X (compareOp op) r) (ha : PE X a ta) (hb : PE X b tb) (hm : behindInMarks op b = false) : PE X (.Compare a [op] [b] pos) (tOp r ta tb) := by
  intro pins s σ H Q I h
  exact wpAny_Compare1 (binT ha hb I h fun v u s2 x y H2 I2 rx ry q => ho pins s2 σ H2 x y v u Q I2 rx ry q) hm
noncomputable def tTest (t : TE) : TT := fun σ H Q => t σ H fun x H' => ∃ k, x = .bl k ∧ Q k H'
theorem pt_cmpR {op : CmpOp} {r : R2} (ho : OpR X (compareOp op) r) (ha : PE X a ta) (hb : PE X b tb) (hm : behindInMarks op b = false) : PT X (.Compare a [op] [b] pos) (tTest (tOp r ta tb)) := by
  intro pins s σ H Q I h
  refine wpAny_isTrue_Compare1 (thn (ha pins s σ H _ I h) fun v s1 ⟨x, H1, I1, r1, q1⟩ => thn (hb pins s1 σ H1 _ I1 q1) fun u s2 ⟨y, H2, I2, r2, q2⟩ =>
    thn (ho pins s2 σ H2 x y v u _ I2 r1 r2 q2) fun c s3 ⟨z, H3, I3, r3, k, e, q3⟩ => ?_) hm
  subst e
  cases r3
  exact wpAny_truthy_bool ⟨H3, I3, q3⟩
noncomputable def TruV (K : PySem.W.Frag) (x : V) (H : Hp) (k : Bool) : Prop :=
  match x with
  | .non => k = false
  | .bl b => k = b
  | .int i => k = (i != 0)
  | .str y => y.length ≤ sizeLine ∧ k = ((y.length : Int) != 0)
  | .byt y => y.size ≤ sizeLine ∧ k = ((y.size : Int) != 0)
  | .ref p => (∃ xs, SqL K H p xs ∧ k = !xs.isEmpty) ∨ (∃ xs, SqT K H p xs ∧ k = !xs.isEmpty) ∨ ∃ kvs, H p = some (.dK kvs) ∧ k = !kvs.isEmpty
  | _ => False
theorem isEmpty_kv {κ : Type} {kvs : List (κ × V)} {vs : List (κ × Value)} (r : KV kvs vs) : (!vs.isEmpty) = !kvs.isEmpty := by
  cases r <;> rfl
theorem isEmpty_of {xs : List V} {its : List Value} (r : Vals xs its) : (!its.toArray.isEmpty) = !xs.isEmpty := by
  cases r <;> simp
theorem line63 : (sizeLine : Nat) < 2 ^ 63 := by rw [sizeLine_eq]; decide
theorem tru_ok : TruR X (fun x H Q => ∃ k, TruV X.K x H k ∧ Q k H) := by
  intro pins s σ H x v Q I rx h
  obtain ⟨k, e, q⟩ := h
  have hl := line63
  have hs : sizeLine = 16777216 := sizeLine_eq
  cases x with
  | non =>
    cases rx
    have e' : k = false := e
    subst e'
    exact truthy_none ⟨H, I, q⟩
  | bl b =>
    cases rx
    have e' : k = b := e
    subst e'
    exact wpAny_truthy_bool ⟨H, I, q⟩
  | int i =>
    obtain ⟨t, rfl⟩ := rx
    have e' : k = (i != 0) := e
    subst e'
    exact PySem.P.truthy_int ⟨H, I, q⟩
  | str y =>
    obtain ⟨t, rfl⟩ := rx
    obtain ⟨hy, e'⟩ : y.length ≤ sizeLine ∧ k = ((y.length : Int) != 0) := e
    subst e'
    exact PySem.P.truthy_str (by omega) ⟨H, I.tok _, q⟩
  | byt y =>
    obtain ⟨t, rfl⟩ := rx
    obtain ⟨hy, e'⟩ : y.size ≤ sizeLine ∧ k = ((y.size : Int) != 0) := e
    subst e'
    exact PySem.W.truthy_bytes (by omega) ⟨H, I.tok _, q⟩
  | ref p =>
    cases rx
    have e' : (∃ xs, SqL X.K H p xs ∧ k = !xs.isEmpty) ∨ (∃ xs, SqT X.K H p xs ∧ k = !xs.isEmpty) ∨ ∃ kvs, H p = some (.dK kvs) ∧ k = !kvs.isEmpty := e
    rcases e' with ⟨xs, hx, e'⟩ | ⟨xs, hx, e'⟩ | ⟨kvs, hx, e'⟩
    · subst e'
      obtain ⟨its, r, pl, hz⟩ := I.list hx
      have hlen := r.length
      exact wpAny_truthy_list pl.isList (by simp only [List.size_toArray]; omega) ⟨H, I.tok _, by rw [isEmpty_of r]; exact q⟩
    · subst e'
      obtain ⟨its, r, pl, hz⟩ := I.tuple hx
      have hlen := r.length
      exact truthy_tuple pl (by simp only [List.size_toArray]; omega) ⟨H, I.tok _, by rw [isEmpty_of r]; exact q⟩
    · subst e'
      obtain ⟨hz, hS, vs, r, m⟩ : kvs.length ≤ sizeLine ∧ (p == sysModules) = false ∧ ∃ vs, KV kvs vs ∧ s.heap.DictOf (mixKind X.prog X.w) p vs := I.hok p _ hx
      have hlen : kvs.length = vs.length := Paired.length r
      exact wpAny_truthy_dict hS m (by omega) ⟨H, I.tok _, by rw [isEmpty_kv r]; exact q⟩
  | _ => exact (show False from e).elim
theorem pt_truth (ha : PE X a ta) (he : ∀ whole, isTrue a X.env whole = (do let v ← whole; standAt a.pos; holding [v] (truthy v))) :
    PT X a (fun σ H Q => ta σ H fun x H' => ∃ k, TruV X.K x H' k ∧ Q k H') := by
  intro pins s σ H Q I h
  exact isTrue_plain (thn (ha pins s σ H _ I h) fun v s1 ⟨x, H1, I1, r1, q1⟩ => tru_ok pins s1 σ H1 x v Q I1 r1 q1) (he _)
theorem op_add_str : OpR X (binaryOp .Add) (fun x y H Q => ∃ i j, x = .str i ∧ y = .str j ∧ i.length + j.length ≤ sizeLine ∧ Q (.str (i ++ j)) H) := by
  intro pins s σ H x y v u Q I rx ry h
  obtain ⟨i, j, rfl, rfl, hz, q⟩ := h
  obtain ⟨t, rfl⟩ := rx
  obtain ⟨t', rfl⟩ := ry
  exact add_str (fun t' tk => ⟨.str (i ++ j), H, I.tok _, ⟨_, rfl⟩, q⟩) hz
theorem vals1 {x : V} {us : List Value} (r : Vals [x] us) : ∃ u, us = [u] ∧ RelV x u := by
  cases r with
  | cons r1 r2 => cases r2; exact ⟨_, rfl, r1⟩
theorem vals2 {x y : V} {us : List Value} (r : Vals [x, y] us) : ∃ u w', us = [u, w'] ∧ RelV x u ∧ RelV y w' := by
  cases r with
  | cons r1 r2 =>
    cases r2 with
    | cons r3 r4 => cases r4; exact ⟨_, _, rfl, r1, r3⟩
end
end L2
namespace L2
open PySem PySem.Spec PyProof.Rows
structure ObjM (h : Heap) (x dx C : Addr) (mA : Str → Option Value) : Prop where
  obj : h.get? x = some (PySem.W.instObj C dx)
  ns : h.Ns1 dx mA
  ne : dx ≠ x
theorem lookIn_ns {h : Heap} {dx : Addr} {mA : Str → Option Value} (n : h.Ns1 dx mA) : ∃ od, h.get? dx = some od ∧ ∀ name, PySem.W.lookIn name od = some (mA name) := by
  obtain ⟨o, es, ep, ho, hd, hk, _, hm⟩ := n
  refine ⟨o, ho, fun name => ?_⟩
  have e := hm name
  unfold nsFind findBy at e
  rw [← Array.find?_toList] at e
  unfold PySem.W.lookIn
  rw [hd]
  dsimp only
  split
  · rename_i y q
    rw [q] at e
    exact congrArg some e
  · rename_i q
    rw [q] at e
    have a : es.toList.any (·.refKey) = false := by
      rw [List.any_eq_false]
      intro y hy
      obtain ⟨z, t, hkey⟩ := hk y (Array.mem_toList_iff.mp hy)
      simp [DictEntry.refKey, hkey]
    have a' : ¬ es.toList.any (·.refKey) = true := by rw [a]; exact Bool.false_ne_true
    rw [if_neg a']
    exact congrArg some e
theorem ObjM.look {h : Heap} {x dx C : Addr} {mA : Str → Option Value} (I : ObjM h x dx C mA) : ∃ od, PySem.W.InstAt h x (PySem.W.instObj C dx) C (some od) ∧ ∀ name, PySem.W.lookIn name od = some (mA name) :=
  let ⟨od, ho, hl⟩ := lookIn_ns I.ns
  ⟨od, ⟨I.obj, rfl, rfl, ho⟩, hl⟩
section
variable {prog : Program} {w : World} {A : Around} {E : Value → Shared → Prop} {s : Shared} {K : PySem.W.Frag} {x dx C f : Addr} {mA : Str → Option Value} {name : Str} {v : Value}
end
theorem RelO.some_of {v : V} {o : Option Value} (r : RelO (some v) o) : ∃ u, o = some u ∧ RelV v u := by
  cases o with
  | none => exact (show False from r).elim
  | some u => exact ⟨u, rfl, r⟩
section
variable {P : Program} {w : World} {H H' : Hp} {h h' : Heap} {a C dx : Addr} {fs fs' : List (Str × V)}
theorem ins_get (hok : HOk P w H h) (e : H a = some (.ins C dx fs)) : ∃ mA, ObjM h a dx C mA ∧ (∀ f, RelO (fs.lookup f) (mA f)) ∧ PySem.Within mA (fs.map (·.1)) ∧ fs.length ≤ 1000 ∧ H dx = some (.own a) := by
  obtain ⟨d, z, ne, ob, mA, n, r, q⟩ := (show ObjOk P w H h a (.ins C dx fs) from hok a _ e)
  exact ⟨mA, ⟨ob, n, ne⟩, r, q, z, d⟩
end
structure Cls (K : PySem.W.Frag) (C : Addr) : Prop where
  pg : PySem.W.plainGet K C Str.empty = true
  hd : PySem.W.hasDictIn K C = true
  po : PySem.W.plainOver K C = true
  sa : PySem.W.findIn K (.ref C) "__setattr__" = some (some (.builtin "object.__setattr__"))
theorem Cls.get {K : PySem.W.Frag} {C : Addr} (c : Cls K C) (f : Str) : PySem.W.plainGet K C f = true := c.pg
structure Con (K : PySem.W.Frag) (C : Addr) (f : Str) (v : V) (u : Value) : Prop where
  at_ : PySem.W.findIn K (.ref C) f = some (some u)
  rel : RelV v u
  get : PySem.W.specialIn K u "__get__" = some none
  cp : PySem.W.copiedNames.contains f = false
section
variable {X : Cx} {pins : List (Addr × Obj)} {σ : St} {H : Hp} {s : Shared} {a C dx : Addr} {fs : List (Str × V)} {f : Str} {v : V} {A : Around} {E : Value → Shared → Prop}
end
section
variable {X : Cx} {o e value : Expr} {f : Str} {pos pos' tpos : Pos} {ta tv : TE}
end
section
variable {X : Cx} {pins : List (Addr × Obj)} {σ : St} {H : Hp} {s : Shared} {A : Around} {E : Value → Shared → Prop} {Q : Value → Shared → Prop} {c : Value} {b : Bool}
inductive TyOf (K : PySem.W.Frag) (H : Hp) : V → Value → Prop where
  | non : TyOf K H .non (.type "NoneType")
  | bl (x : Bool) : TyOf K H (.bl x) (.type "bool")
  | int (i : Int) : TyOf K H (.int i) (.type "int")
  | str (x : Str) : TyOf K H (.str x) (.type "str")
  | flt (x : UInt64) : TyOf K H (.flt x) (.type "float")
  | lst {a : Addr} {xs : List V} (e : H a = some (.lst xs)) : TyOf K H (.ref a) (.type "list")
  | frz {a : Addr} {o : Obj} {xs : List V} (e : H a = some (.frz o (.lst xs))) : TyOf K H (.ref a) (.type "list")
  | tup {a : Addr} {xs : List V} (e : H a = some (.tup xs)) : TyOf K H (.ref a) (.type "tuple")
  | dK {a : Addr} {kvs : List (Key × V)} (e : H a = some (.dK kvs)) : TyOf K H (.ref a) (.type "dict")
  | dT {a : Addr} {kvs : List (List Key × V)} (e : H a = some (.dT kvs)) : TyOf K H (.ref a) (.type "dict")
  | ins {a C dx : Addr} {fs : List (Str × V)} (e : H a = some (.ins C dx fs)) (cl : Cls K C) (ha : PySem.W.findIn K (.ref C) "__class__" = some (some (.builtin "object.__class__")))
      (hn : PySem.W.specialIn K (.builtin "object.__class__") "__get__" = some (some (.builtin "getset_descriptor.__get__"))) (htk : PySem.W.takesIn K (.builtin "object.__class__") = some true)
      (hm : PySem.W.mroIn K C (.type "object") = some true) : TyOf K H (.ref a) (.ref C)
theorem isinst_ok {x : V} {u t : Value} (I : Inv X pins σ H s) (rx : RelV x u) (ty : TyOf X.K H x t) (e : PySem.W.kitOne X.K t c = some b) (h : ∀ tk, Q (.bool b) { s with toks := tk }) :
    wpAny (model X.prog X.w) A (call (.builtin "isinstance") [u, c]) Q E s := by
  cases ty with
  | non => cases (show u = Value.none from rx); exact PySem.W.kia_one PySem.W.kitx_none I.kIn True.intro e (fun z => nomatch z) h
  | bl y => cases (show u = Value.bool y from rx); exact PySem.W.kia_one PySem.W.kitx_bool I.kIn True.intro e (fun z => nomatch z) h
  | int i => obtain ⟨t, q⟩ := (show ∃ t, u = Value.int i t from rx); cases q; exact PySem.W.kia_one PySem.W.kitx_int I.kIn True.intro e (fun z => nomatch z) h
  | str y => obtain ⟨t, q⟩ := (show ∃ t, u = Value.str y t from rx); cases q; exact PySem.W.kia_one PySem.W.kitx_str I.kIn True.intro e (fun z => nomatch z) h
  | flt y => obtain ⟨t, q⟩ := (show ∃ t, u = Value.float y t from rx); cases q; exact PySem.W.kia_one PySem.W.kitx_float I.kIn True.intro e (fun z => nomatch z) h
  | @lst a xs ea =>
    cases (show u = Value.ref a from rx)
    obtain ⟨_, _, n, _, h1⟩ := (show ObjOk X.prog X.w H s.heap a (.lst xs) from I.hok a _ ea)
    exact PySem.W.kia_one PySem.W.kitx_list I.kIn ⟨_, h1, rfl⟩ e (fun z => nomatch z) h
  | @frz a ob xs ea =>
    cases (show u = Value.ref a from rx)
    obtain ⟨_, _, _, n, _, h1⟩ := (show ObjOk X.prog X.w H s.heap a (.frz ob (.lst xs)) from I.hok a _ ea)
    exact PySem.W.kia_one PySem.W.kitx_list I.kIn ⟨_, h1, rfl⟩ e (fun z => nomatch z) h
  | @tup a xs ea =>
    cases (show u = Value.ref a from rx)
    obtain ⟨_, _, _, p⟩ := (show ObjOk X.prog X.w H s.heap a (.tup xs) from I.hok a _ ea)
    obtain ⟨o, h1, h2, _⟩ := p
    exact PySem.W.kia_one PySem.W.kitx_tuple I.kIn ⟨o, h1, h2⟩ e (fun z => nomatch z) h
  | @dK a kvs ea =>
    cases (show u = Value.ref a from rx)
    obtain ⟨_, _, vs, _, p⟩ := (show ObjOk X.prog X.w H s.heap a (.dK kvs) from I.hok a _ ea)
    obtain ⟨o, es, ep, h1, h2, _⟩ := p
    exact PySem.W.kia_one PySem.W.kitx_dict I.kIn ⟨o, h1, h2.1⟩ e (fun z => nomatch z) h
  | @dT a kvs ea =>
    cases (show u = Value.ref a from rx)
    obtain ⟨_, _, xs, _, o, es, ep, h1, h2, _⟩ := (show ObjOk X.prog X.w H s.heap a (.dT kvs) from I.hok a _ ea)
    exact PySem.W.kia_one PySem.W.kitx_dict I.kIn ⟨o, h1, h2.1⟩ e (fun z => nomatch z) h
  | @ins a C dx fs ea cl ha hn htk hm =>
    cases (show u = Value.ref a from rx)
    obtain ⟨mA, O, _⟩ := ins_get I.hok ea
    obtain ⟨od, J, _⟩ := O.look
    exact PySem.W.kia_one (PySem.W.kitx_own (cl.get _) cl.hd ha hn htk hm) I.kIn J e (fun z => nomatch z) h
end
end L2
namespace L2
open PySem PySem.Spec PyProof.Rows
structure Room (k : Nat) (A : Around) : Prop where
  hd : A.handled = none
  dp : A.depth + 3 * k + 5 < recursionLimit
  un : A.units + 16 * k + 200 < cLine
theorem Room.mono {j k : Nat} {A : Around} (r : Room k A) (h : j ≤ k) : Room j A := ⟨r.hd, by have := r.dp; omega, by have := r.un; omega⟩
theorem Room.deeper {k : Nat} {A : Around} (r : Room (k + 1) A) (env : Env) : Room k (A.deeper env) :=
  ⟨r.hd, by have := r.dp; show A.depth + 1 + 3 * k + 5 < _; omega, by have := r.un; show A.units + 3 + 16 * k + 200 < _; omega⟩
theorem Room.depth {k : Nat} {A : Around} (r : Room k A) : A.depth < recursionLimit := by have := r.dp; omega
noncomputable def tNil : TA := fun _ H Q => Q [] H
noncomputable def tCons (ta : TE) (tr : TA) : TA := fun σ H Q => ta σ H fun x H1 => tr σ H1 fun xs H2 => Q (x :: xs) H2
section
variable {X : Cx} {e : Expr} {es : List Expr} {te : TE} {t : TA} {pos : Pos}
theorem pa_nil : PA X [] tNil := fun _ _ _ _ H Q I h => Calls.spliced_nil ⟨[], H, I, .nil, h⟩
theorem pa_cons (ha : PE X e te) (hr : PA X es t) (hs : starEach (e :: es) X.env = (false, eval e X.env) :: starEach es X.env := by rfl) : PA X (e :: es) (tCons te t) := by
  intro pos pins s σ H Q I h
  rw [hs]
  show wpAny _ _ (spliced ((false, eval e X.env) :: backTo pos (starEach es X.env))) _ _ s
  refine Calls.spliced_cons (thn (ha pins s σ H _ I h) fun u s1 ⟨x, H1, I1, r1, q1⟩ => ?_)
  exact thn (hr pos pins s1 σ H1 _ I1 q1) fun us s2 hq5 => by obtain ⟨xs, H2, I2, r2, q2⟩ := hq5; exact ⟨x :: xs, H2, I2, .cons r1 r2, q2⟩
noncomputable def tTup (t : TA) : TE := fun σ H Q => t σ H fun xs H1 => xs.length ≤ sizeLine ∧ ∀ p, H1 p = none → Q (.ref p) (upd H1 p (.tup xs))
noncomputable def tLst (t : TA) : TE := fun σ H Q => t σ H fun xs H1 => xs.length ≤ sizeLine ∧ ∀ p, H1 p = none → Q (.ref p) (upd H1 p (.lst xs))
theorem pe_tup {x1} (h : PA X es t) : PE X (.Tuple es x1 pos) (tTup t) := by
  intro pins s σ H Q I hq
  refine wpAny_Tuple_spliced (thn (h pos pins s σ H _ I hq) fun us s1 ⟨xs, H1, I1, r, z, q⟩ => ⟨by rw [← r.length]; exact z, ?_⟩)
  have hf : H1 s1.heap.objs.size = none := I1.hok.fresh (Nat.le_refl _)
  refine ⟨.ref s1.heap.objs.size, upd H1 s1.heap.objs.size (.tup xs), I1.laid (t' := s1.toks) (fun b u e => Heap.get?_push_of_some _ e) (Nat.le_refl _) ?_, rfl, q _ hf⟩
  exact ⟨z, us, r, ⟨_, Heap.get?_push_size _ rfl, rfl, _, rfl⟩⟩
theorem pe_lst (h : PA X es t) : PE X (.List es pos) (tLst t) := by
  intro pins s σ H Q I hq
  refine wpAny_List_spliced (thn (h pos pins s σ H _ I hq) fun us s1 ⟨xs, H1, I1, r, z, q⟩ => ⟨by rw [← r.length]; exact z, ?_⟩)
  have hf : H1 s1.heap.objs.size = none := I1.hok.fresh (Nat.le_refl _)
  refine ⟨.ref s1.heap.objs.size, upd H1 s1.heap.objs.size (.lst xs), I1.laid (t' := s1.toks) (fun b u e => Heap.get?_push_of_some _ e) (Nat.le_refl _) ?_, rfl, q _ hf⟩
  exact ⟨z, us, 0, r, Heap.get?_push_size _ rfl⟩
end
noncomputable abbrev Sp := List V → Hp → VK → XK → Prop
noncomputable abbrev CXT := List Env → Hp → Shared → XK → Value → Shared → Prop
structure Env0 (P : Program) (w : World) (K : PySem.W.Frag) (mg : Str → Option Value) (base : Heap) (A : Around) (outer : List Env) (s : Shared) (H : Hp) : Prop where
  frames : A.frames = some outer
  mod : Mod K mg base
  bs : ∀ b o, base.get? b = some o → s.heap.get? b = some o ∧ H b = none
  bsz : base.objs.size ≤ s.heap.objs.size
  funs : s.heap.FunFrames base outer
  frf : ∀ b ∈ frs outer, H b = none
  hok : HOk P w H s.heap
  bare : AllBare s.gens
noncomputable def CE (outer : List Env) (P : Program) (w : World) (H : Hp) (s : Shared) (Q : VK) (u : Value) (s' : Shared) : Prop :=
  ∃ v H', s'.os = s.os ∧ AllBare s'.gens ∧ Un (frs outer) [] H H' s.heap s'.heap ∧ HOk P w H' s'.heap ∧ RelV v u ∧ Q v H'
noncomputable def CR (CX : CXT) (outer : List Env) (P : Program) (w : World) (H : Hp) (s : Shared) (Q : VK) (E : XK) (r : Result) (s' : Shared) : Prop :=
  match r with
  | .ok (.ret u) => CE outer P w H s Q u s'
  | .ok _ => False
  | .error e => CX outer H s E e s'
structure FnOk (P : Program) (w : World) (K : PySem.W.Frag) (mg : Str → Option Value) (base : Heap) (CX : CXT) (k : Nat) (f : Addr) (fd : FuncData) (ps : List Str) (sp : Sp) : Prop where
  len : ∀ vs H Q E, sp vs H Q E → vs.length = ps.length
  run : ∀ (A : Around) (outer : List Env) (s : Shared) (H : Hp) (args : Args) (us : List Value) (vs : List V) (Q : VK) (E : XK), Room k A → Env0 P w K mg base A outer s H → BindsTo s fd args (ps.zip us) → Vals vs us → sp vs H Q E →
    codeAny (model P w) A (.call (.ref f) args) (CR CX outer P w H s Q E) s
theorem FnOk.mono {P : Program} {w : World} {K : PySem.W.Frag} {mg : Str → Option Value} {base : Heap} {CX : CXT} {j k : Nat} {f : Addr} {fd : FuncData} {ps : List Str} {sp : Sp} (F : FnOk P w K mg base CX j f fd ps sp) (h : j ≤ k) :
    FnOk P w K mg base CX k f fd ps sp := ⟨F.len, fun A outer s H args us vs Q E hr => F.run A outer s H args us vs Q E (hr.mono h)⟩
section
variable {X : Cx} {pins : List (Addr × Obj)} {σ : St} {H : Hp} {s s' : Shared}
theorem Inv.env0 (I : Inv X pins σ H s) : Env0 X.prog X.w X.K X.mg X.base X.A X.stack s H :=
  ⟨I.ok.frames, I.ok.mod, I.bs, Nat.le_trans I.ok.bsz I.sz, I.stack, I.stkFree, I.hok, I.bare⟩
theorem Inv.after {Q : VK} {u : Value} (I : Inv X pins σ H s) (h : CE X.stack X.prog X.w H s Q u s') : EP X pins σ Q u s' := by
  obtain ⟨v, H', os, bare, un, hok, r, q⟩ := h
  obtain ⟨hh, g, d, t, os'⟩ := s'
  obtain rfl : os' = s.os := os
  exact ⟨v, H', I.call (h' := hh) (g' := g) (d' := d) (t' := t) (ch := []) un hok bare (fun b z => absurd z (by simp)), r, q⟩
end
noncomputable def tCall (sp : Sp) (dvs : List V) (E : XK) (t : TA) : TE := fun σ H Q => t σ H fun vs H1 => sp (vs ++ dvs) H1 Q E
noncomputable def Binds (K : PySem.W.Frag) (fd : FuncData) (ps : List Str) (ds : List Value) : Prop :=
  ∀ (s : Shared) (us : List Value), K.In s.heap → (us ++ ds).length = ps.length → BindsTo s fd ⟨us, []⟩ (ps.zip (us ++ ds))
theorem Binds.all {K : PySem.W.Frag} {fd : FuncData} {ps : List Str} (h : ∀ us : List Value, us.length = ps.length → bindArgs fd ⟨us, []⟩ = pure (ps.zip us)) : Binds K fd ps [] := fun s us _ hl => by
  rw [List.append_nil] at hl ⊢
  exact .of_eq (h us hl)
noncomputable def Passes (CX : CXT) (X : Cx) (E : XK) : Prop := ∀ (pins : List (Addr × Obj)) (σ : St) (H : Hp) (s : Shared) (e : Value) (s' : Shared), Inv X pins σ H s → CX X.stack H s E e s' → X.xe e s'
section
variable {X : Cx} {CX : CXT} {k : Nat} {f C : Addr} {fd : FuncData} {ps : List Str} {sp : Sp} {dvs : List V} {ds : List Value} {E : XK} {x m : Str} {p pos apos : Pos} {e o : Expr} {es : List Expr} {ta : TE} {t : TA}
theorem run_fn {pins : List (Addr × Obj)} {σ : St} {H : Hp} {s : Shared} {Q : VK} {us : List Value} {vs : List V} (F : FnOk X.prog X.w X.K X.mg X.base CX k f fd ps sp) (hr : Room k X.A) (hb : Binds X.K fd ps ds) (hd : Vals dvs ds) (hx : Passes CX X E)
    (I : Inv X pins σ H s) (r : Vals vs us) (h : sp (vs ++ dvs) H Q E) : wpAny (model X.prog X.w) X.A (call (.ref f) us) (EP X pins σ Q) X.xe s := by
  have r2 : Vals (vs ++ dvs) (us ++ ds) := r.append hd
  have hl : (us ++ ds).length = ps.length := by rw [← r2.length]; exact F.len _ _ _ _ h
  refine wpAny_call (codeAny_mono (F.run X.A X.stack s H ⟨us, []⟩ (us ++ ds) (vs ++ dvs) Q E hr I.env0 (hb s us I.kIn hl) r2 h) fun r s' hq => ?_)
  cases r with
  | error e => exact hx pins σ H s e s' I hq
  | ok fl =>
    cases fl with
    | ret u => exact I.after hq
    | next => exact False.elim hq
    | brk => exact False.elim hq
    | cont => exact False.elim hq
theorem pe_call (F : FnOk X.prog X.w X.K X.mg X.base CX k f fd ps sp) (hr : Room k X.A) (hg : Gl X x) (hm : X.mg x = some (.ref f)) (hk : PySem.W.keepIn X.K (.ref f) = true) (hb : Binds X.K fd ps ds) (hd : Vals dvs ds) (hx : Passes CX X E)
    (ha : PA X (e :: es) t) (hdb : (x == ("__debug__" : Str)) = false := by decide) (he : starEach (e :: es) X.env = (false, eval e X.env) :: starEach es X.env := by rfl) (hpl : (backTo pos (starEach es X.env)).any (·.1) = false := by rfl) :
    PE X (.Call (.Name x p) (e :: es) [] pos) (tCall sp dvs E t) := by
  intro pins s σ H Q I h
  refine wpAny_Call_Name_kw (ld_glob I hg hm ?_ hdb)
  refine PySem.W.callWith_K (h₀ := X.base) I.ok.mod.kin hk (thn (ha pos pins s σ H _ I h) fun us s1 ⟨vs, H1, I1, r, q⟩ => ⟨I1.kIn, ?_⟩) he hpl
  exact run_fn F hr hb hd hx I1 r q
end
section
variable {X : Cx} {CX : CXT} {k : Nat} {f C : Addr} {fd : FuncData} {ps ks : List Str} {sp : Sp} {E : XK} {x m : Str} {p pos apos kpos : Pos} {e o : Expr} {es : List Expr} {kws : List Keyword} {te ta : TE} {t tk : TA} {nm : Option Str}
structure KBinds (K : PySem.W.Frag) (fd : FuncData) (ps ks : List Str) (g : List Value → List Value → List Value) (gV : List V → List V → List V) : Prop where
  to : ∀ (s : Shared) (us ws : List Value), K.In s.heap → (g us ws).length = ps.length → BindsTo s fd ⟨us, ks.zip ws⟩ (ps.zip (g us ws))
  rel : ∀ {vs : List V} {us : List Value} {zs : List V} {ws : List Value}, Vals vs us → Vals zs ws → Vals (gV vs zs) (g us ws)
variable {g : List Value → List Value → List Value} {gV : List V → List V → List V}
end
structure FnScope (N P : List Str) (sc : Scope) : Prop where
  kind : sc.kind = .function
  co : sc.isCoroutine = false
  gen : sc.isGenerator = false
  nd : N.Nodup
  pre : N.take P.length = P
  par : ∀ x ∈ P, sc.names.lookup x = some .local ∨ sc.names.lookup x = some .cell
  nofree : ∀ y ∈ sc.names, y.2 ≠ .free
theorem bindL_out {kindOf : Str → Option NameKind} {x : Str} : ∀ {binds : List (Str × Value)} {m : Str → Option Value}, (∀ v, (x, v) ∉ binds) → bindL kindOf binds m x = m x
  | [], _, _ => rfl
  | (n, v) :: r, m, h => by
    unfold bindL
    rw [bindL_out fun w hw => h w (List.mem_cons_of_mem _ hw)]
    split
    · have : x ≠ n := by rintro rfl; exact h v List.mem_cons_self
      simp [this]
    · rfl
theorem bindC_out {kindOf : Str → Option NameKind} {x : Str} : ∀ {binds : List (Str × Value)} {m : Str → Option Value}, (∀ v, (x, v) ∉ binds) → bindC kindOf binds m x = m x
  | [], _, _ => rfl
  | (n, v) :: r, m, h => by
    unfold bindC
    rw [bindC_out fun w hw => h w (List.mem_cons_of_mem _ hw)]
    split
    · rfl
    · have : x ≠ n := by rintro rfl; exact h v List.mem_cons_self
      simp [this]
theorem bindL_get {kindOf : Str → Option NameKind} {x : Str} {v : Value} : ∀ {P : List Str} {vs : List Value} {i : Nat} {m : Str → Option Value}, P.Nodup → P[i]? = some x → vs[i]? = some v → kindOf x = some .local →
    bindL kindOf (P.zip vs) m x = some v
  | [], _, _, _, _, h, _, _ => by simp at h
  | _ :: _, [], _, _, _, _, h, _ => by simp at h
  | p :: P, w :: vs, 0, m, nd, h1, h2, hk => by
    simp at h1 h2; subst h1; subst h2
    show bindL kindOf ((p, w) :: P.zip vs) m p = _
    unfold bindL
    rw [bindL_out fun v hv => (List.nodup_cons.mp nd).1 (List.of_mem_zip hv).1, if_pos hk]
    simp
  | p :: P, w :: vs, i + 1, m, nd, h1, h2, hk => by
    show bindL kindOf ((p, w) :: P.zip vs) m x = _
    unfold bindL
    exact bindL_get (i := i) (List.nodup_cons.mp nd).2 (by simpa using h1) (by simpa using h2) hk
theorem bindC_get {kindOf : Str → Option NameKind} {x : Str} {v : Value} : ∀ {P : List Str} {vs : List Value} {i : Nat} {m : Str → Option Value}, P.Nodup → P[i]? = some x → vs[i]? = some v → kindOf x ≠ some .local →
    bindC kindOf (P.zip vs) m x = some v
  | [], _, _, _, _, h, _, _ => by simp at h
  | _ :: _, [], _, _, _, _, h, _ => by simp at h
  | p :: P, w :: vs, 0, m, nd, h1, h2, hk => by
    simp at h1 h2; subst h1; subst h2
    show bindC kindOf ((p, w) :: P.zip vs) m p = _
    unfold bindC
    rw [bindC_out fun v hv => (List.nodup_cons.mp nd).1 (List.of_mem_zip hv).1, if_neg hk]
    simp
  | p :: P, w :: vs, i + 1, m, nd, h1, h2, hk => by
    show bindC kindOf ((p, w) :: P.zip vs) m x = _
    unfold bindC
    exact bindC_get (i := i) (List.nodup_cons.mp nd).2 (by simpa using h1) (by simpa using h2) hk
noncomputable def start (N : List Str) (vs : List V) : St := vs.map some ++ List.replicate (N.length - vs.length) none
noncomputable def cxOf (CX : CXT) (P : Program) (w : World) (K : PySem.W.Frag) (mg : Str → Option Value) (base : Heap) (N : List Str) (qual : Str) (scope : Scope) (f : Addr) (cd : Value) (A : Around) (outer : List Env) (s : Shared) (H : Hp) (E : XK) : Cx where
  prog := P
  w := w
  K := K
  mg := mg
  base := base
  A := A.deeper (envOfC qual scope s.heap.objs.size f cd)
  N := N
  s₀ := s
  H₀ := H
  env := envOfC qual scope s.heap.objs.size f cd
  outer := outer
  stack := envOfC qual scope s.heap.objs.size f cd :: outer
  ex := []
  calm := true
  fn := fun _ => true
  pn := []
  xe := fun e s' => wpAny (model P w) (A.deeper (envOfC qual scope s.heap.objs.size f cd)) (leaving (envOfC qual scope s.heap.objs.size f cd) e) (fun _ s'' => CX outer H s E e s'') (fun e' s'' => CX outer H s E e' s'') s'
theorem cell_has {sc : Scope} {n : Nat} {x : Str} (h : sc.names.lookup x = some .cell) : ∃ c, (cellsFrom n sc.names []).lookup x = some c := by
  have q := PySem.W.cellsFrom_some sc.names n [] (.inl h)
  exact Option.isSome_iff_exists.mp q
theorem inv_start {CX : CXT} {P : Program} {w : World} {K : PySem.W.Frag} {mg : Str → Option Value} {base : Heap} {N ps : List Str} {qual : Str} {scope : Scope} {f : Addr} {cd : Value} {A : Around} {outer : List Env} {s s1 : Shared} {H : Hp} {E : XK} {us : List Value} {vs : List V}
    (S : FnScope N ps scope) (hd : A.handled = none) (e0 : Env0 P w K mg base A outer s H) (hl : vs.length = ps.length) (r : Vals vs us)
    (x : InCallC s s.heap.objs.size (bindL (envOfC qual scope s.heap.objs.size f cd).kindOf (ps.zip us) fun _ => none) (cellsFrom (s.heap.objs.size + 1) scope.names []) (bindC (envOfC qual scope s.heap.objs.size f cd).kindOf (ps.zip us) fun _ => none) s1) :
    Inv (cxOf CX P w K mg base N qual scope f cd A outer s H E) [] (start N vs) H s1 := by
  have hpl : ps.length ≤ N.length := by have := congrArg List.length S.pre; rw [List.length_take] at this; omega
  obtain ⟨h1, tk, rfl, hk⟩ := x.done
  have noA : ∀ b : Addr, b ∉ (cxOf CX P w K mg base N qual scope f cd A outer s H E).ex := fun b z => absurd (show b ∈ ([] : List Addr) from z) (by simp)
  refine ⟨⟨e0.mod, S.kind, rfl, rfl, Nat.le_refl _, fun y z c h1 h2 => ?_, fun y hy => ?_, fun y c _ h => ?_, fun _ => hd, Around.frames_deeper e0.frames, .inr ⟨rfl, rfl⟩, fun b z => absurd z (noA b), e0.bs, e0.bsz, fun b _ _ => noA b, fun b z => absurd z (noA b), e0.funs, e0.frf⟩,
    rfl, e0.bare, Un.kept hk, ⟨_, x.toInCall.ns, fun i y v h1 h2 h3 => ?_⟩, fun y c h => ⟨_, x.cell y c h⟩, e0.hok.fresh (Nat.le_refl _), fun y c h => ?_, fun p hp => absurd (show p ∈ ([] : List (Addr × Obj)) from hp) (by simp), e0.hok.kept hk, ?_⟩
  · exact name_of_addr x.apart (PySem.mem_of_lookup h1) (PySem.mem_of_lookup h2)
  · have hy : scope.names.lookup y = some .cell ∨ scope.names.lookup y = some .free := hy
    rcases hy with hy | hy
    · exact cell_has hy
    · exact absurd rfl (S.nofree _ (PySem.mem_of_lookup hy))
  · exact Nat.le_of_lt (x.above y c (PySem.mem_of_lookup h))
  · have hi : i < vs.length := by
      unfold start at h2
      by_cases hi : i < vs.length
      · exact hi
      · rw [List.getElem?_append_right (by simpa using hi)] at h2
        rw [List.getElem?_replicate] at h2
        split at h2 <;> cases h2
    have ha : vs[i]? = some v := by
      unfold start at h2
      rw [List.getElem?_append_left (by simpa using hi), List.getElem?_map] at h2
      cases e : vs[i]? with
      | none => rw [e] at h2; cases h2
      | some a => rw [e] at h2; cases h2; rfl
    obtain ⟨u, hu, rv⟩ := r.get ha
    have hp : ps[i]? = some y := by
      rw [← S.pre, List.getElem?_take_of_lt (by omega)]; exact h1
    have ndP : ps.Nodup := by rw [← S.pre]; exact S.nd.sublist (List.take_sublist _ _)
    refine ⟨u, rv, ?_⟩
    rcases S.par y (List.mem_of_getElem? hp) with k | k
    · exact .inl ⟨k, bindL_get ndP hp hu k⟩
    · obtain ⟨c, e⟩ := cell_has (n := s.heap.objs.size + 1) k
      refine .inr ⟨.inl k, c, e, ?_⟩
      have q := x.cell y c e
      rw [bindC_get ndP hp hu (by show scope.names.lookup y ≠ _; rw [k]; decide)] at q
      exact q
  · exact e0.hok.fresh (Nat.le_of_lt (x.above y c (PySem.mem_of_lookup h)))
  · unfold start
    show _ = N.length
    rw [List.length_append, List.length_map, List.length_replicate]
    omega
theorem fn_of {CX : CXT} {P : Program} {w : World} {K : PySem.W.Frag} {mg : Str → Option Value} {base : Heap} {k : Nat} {f : Addr} {name qual : Str} {params : Arguments} {body : List Stmt} {scope : Scope} {dV kV doc pm cdv ct oc : Value} {an od : Option Addr}
    {osl : Array (Option Value)} {N ps : List Str} {sp : Sp} (lk : K.lookup f = some ⟨oc, od, .func (PySem.W.fnOf name qual params body scope dV kV doc pm an cdv ct), osl⟩) (hcd : PySem.W.codeIn K cdv qual = true) (S : FnScope N ps scope)
    (len : ∀ vs H Q E, sp vs H Q E → vs.length = ps.length)
    (hbody : ∀ (A : Around) (outer : List Env) (s : Shared) (H : Hp) (vs : List V) (Q : VK) (E : XK), Room k (A.deeper (envOfC qual scope s.heap.objs.size f cdv)) → sp vs H Q E →
      ∃ t, PSs (cxOf CX P w K mg base N qual scope f cdv A outer s H E) body t ∧ t { nx := fun _ H' => Q .non H', rt := Q } (start N vs) H) :
    FnOk P w K mg base CX (k + 1) f (PySem.W.fnOf name qual params body scope dV kV doc pm an cdv ct) ps sp := by
  refine ⟨len, fun A outer s H args us vs Q E hr e0 hb r hsp => ?_⟩
  have hl := len _ _ _ _ hsp
  have KX : K.In s.heap := e0.mod.kin.keeps fun b o e => (e0.bs b o e).1
  have lim : s.heap.NoLimit := e0.mod.nolimit.keeps fun b o e => (e0.bs b o e).1
  have hkind : ∀ y ∈ ps.zip us, scope.names.lookup y.1 = some .local ∨ (scope.names.lookup y.1 = some .cell ∧ ((cellsFrom (s.heap.objs.size + 1) scope.names []).lookup y.1).isSome = true) := fun ⟨n, v⟩ hy => by
    rcases S.par n (List.of_mem_zip hy).1 with q | q
    · exact .inl q
    · exact .inr ⟨q, PySem.W.cellsFrom_some _ _ _ (.inl q)⟩
  refine codeAny_call_function hr.depth (KX _ _ lk) rfl S.co S.gen rfl (PySem.W.codeRec_of KX hcd) (hb _ _ _ _ ?_)
  refine wpAny_newFunctionEnv_cells S.kind hkind fun env he s1 x => ?_
  subst he
  refine ⟨lim.keeps x.toInCall.keep, codeAny_func ?_⟩
  obtain ⟨t, ht, hq⟩ := hbody A outer s H vs Q E (hr.deeper _) hsp
  have I : Inv (cxOf CX P w K mg base N qual scope f cdv A outer s H E) [] (start N vs) H s1 := inv_start S hr.hd e0 hl r x
  refine wpAny_mono (ht [] s1 (start N vs) H _ I hq) (fun fl s' hs => ?_) fun e s' hs => hs
  have fin : ∀ {σ' : St} {H' : Hp} {v : V} {u : Value}, Inv (cxOf CX P w K mg base N qual scope f cdv A outer s H E) [] σ' H' s' → RelV v u → Q v H' → CE outer P w H s Q u s' :=
    fun {σ' H' v u} J rv q => ⟨v, H', J.os, J.bare, J.base, J.hok, rv, q⟩
  cases fl with
  | ret u =>
    obtain ⟨v, σ', H', J, rv, q⟩ := hs
    exact fin J rv q
  | next =>
    obtain ⟨σ', H', J, q⟩ := hs
    exact fin (v := V.non) (u := Value.none) J rfl q
  | brk =>
    obtain ⟨_, _, _, q⟩ := hs
    exact False.elim q
  | cont =>
    obtain ⟨_, _, _, q⟩ := hs
    exact False.elim q
end L2
namespace L2
open PySem PySem.Spec PyProof.Rows
section
variable {X : Cx} {x : Str} {p pos : Pos} {e : Expr} {es : List Expr} {t : TA} {id T : String} {r : List V → Hp → VK → Prop}
noncomputable def tCB (r : List V → Hp → VK → Prop) (t : TA) : TE := fun σ H Q => t σ H fun vs H1 => r vs H1 Q
theorem pe_callB (hc : CallR X (.builtin id) r) (hg : Gl X x) (hm : X.mg x = none) (hv : bootBuiltins x = some (.builtin id)) (ha : PA X (e :: es) t) (hn : x ≠ "__name__" := by decide) (hdb : (x == ("__debug__" : Str)) = false := by decide)
    (he : starEach (e :: es) X.env = (false, eval e X.env) :: starEach es X.env := by rfl) (hpl : (backTo pos (starEach es X.env)).any (·.1) = false := by rfl) : PE X (.Call (.Name x p) (e :: es) [] pos) (tCB r t) := by
  intro pins s σ H Q I h
  refine wpAny_Call_Name_kw (ld_blt I hg hm hv ?_ hn hdb)
  exact PyProof.Rows.callWith_builtin1 (thn (ha pos pins s σ H _ I h) fun us s1 ⟨vs, H1, I1, r1, q1⟩ => hc pins s1 σ H1 vs us Q I1 r1 q1) he hpl
theorem pe_callTy (hc : CallR X (.type T) r) (hg : Gl X x) (hm : X.mg x = none) (hv : bootBuiltins x = some (.type T)) (ha : PA X (e :: es) t) (hn : x ≠ "__name__" := by decide) (hdb : (x == ("__debug__" : Str)) = false := by decide)
    (he : starEach (e :: es) X.env = (false, eval e X.env) :: starEach es X.env := by rfl) (hpl : (backTo pos (starEach es X.env)).any (·.1) = false := by rfl) : PE X (.Call (.Name x p) (e :: es) [] pos) (tCB r t) := by
  intro pins s σ H Q I h
  refine wpAny_Call_Name_kw (ld_blt I hg hm hv ?_ hn hdb)
  exact PyProof.Rows.callWith_type1 (thn (ha pos pins s σ H _ I h) fun us s1 ⟨vs, H1, I1, r1, q1⟩ => hc pins s1 σ H1 vs us Q I1 r1 q1) he hpl
end
end L2
namespace HT
open PySem PyProof.Rows
section
open PySem.SeqAt
open PySem.AutoSeq1 (wpAny_loadPart')
open PySem.MeetsSeq PySem.MeetsSeq2 PySem.MeetsSeq3
end
section
variable {prog : Program} {w : World} {A : Around} {E : Value → Shared → Prop} {s : Shared}
theorem cat_tup {t b : Addr} {vs ws : List Value} {Q : Value → Shared → Prop} (ht : IsTup s.heap t vs.toArray) (hb : IsTup s.heap b ws.toArray) (hv : vs ≠ [])
    (h1 : ws = [] → Q (.ref t) s) (h2 : ws ≠ [] → Q (.ref s.heap.objs.size) { s with heap := s.heap.push { cls := .type "tuple", data := .seq (vs ++ ws).toArray } })
    (hsz : vs.length + ws.length ≤ sizeLine) : wpAny (model prog w) A (binaryOp .Add (.ref t) (.ref b)) Q E s := by
  obtain ⟨⟨cls, dd, data, sl⟩, ho, hc, n, hd⟩ := id ht
  obtain ⟨⟨cls2, dd2, data2, sl2⟩, ho2, hc2, n2, hd2⟩ := id hb
  simp only at hc hd hc2 hd2
  subst hc hd hc2 hd2
  have e : vs.toArray ++ ws.toArray = (vs ++ ws).toArray := by simp
  by_cases hw : ws = []
  · exact concat_meets ⟨_, ho, rfl⟩ ⟨_, ho2, rfl⟩ noFill_tuple_add seq_tuple_add PySem.F.slot_tuple_add PySem.F.entry_tuple_add (PySem.F.args_tuple_add_2 _ _)
      (tuple_addW1 t b vs.toArray ws.toArray n n2 dd dd2 sl sl2 (by simpa using hv) (by simp [hw])) ⟨ho, ho2, h1 hw⟩
  · refine concat_meets ⟨_, ho, rfl⟩ ⟨_, ho2, rfl⟩ noFill_tuple_add seq_tuple_add PySem.F.slot_tuple_add PySem.F.entry_tuple_add (PySem.F.args_tuple_add_2 _ _)
      (tuple_addW2 t b vs.toArray ws.toArray n n2 dd dd2 sl sl2 (by simpa using hv) (by simpa using hw) (by rw [List.size_toArray, List.size_toArray]; exact hsz)) ⟨ho, ho2, ?_⟩
    rw [e]
    exact h2 hw
end
end HT
namespace L2
open PySem PySem.Spec PyProof.Rows
theorem intsAre_of {ns : List Int} : ∀ {us : List Value}, Vals (ns.map V.int) us → IntsAre us ns := by
  induction ns with
  | nil => intro us r; rw [List.map_nil] at r; cases r; exact .nil
  | cons n ns ih =>
    intro us r
    rw [List.map_cons] at r
    cases r with
    | cons r1 r2 =>
      obtain ⟨t, e⟩ := r1
      subst e
      exact .cons n t (ih r2)
section
variable {X : Cx} {e : Expr} {te : TE} {lo hi : Option Expr} {tl th : TO} {pos p2 : Pos}
noncomputable def rCatT (K : PySem.W.Frag) : R2 := fun x y H Q => ∃ a b xs ys, x = .ref a ∧ y = .ref b ∧ SqT K H a xs ∧ SqT K H b ys ∧ xs ≠ [] ∧ xs.length + ys.length ≤ sizeLine ∧
  (ys = [] → Q (.ref a) H) ∧ (ys ≠ [] → ∀ p, H p = none → Q (.ref p) (upd H p (.tup (xs ++ ys))))
theorem Vals.nil_iff {xs : List V} {us : List Value} (r : Vals xs us) : us = [] ↔ xs = [] := by
  cases r with
  | nil => simp
  | cons _ _ => simp
theorem op_catT : OpR X (binaryOp .Add) (rCatT X.K) := by
  intro pins s σ H x y v u Q I rx ry h
  obtain ⟨a, b, xs, ys, rfl, rfl, ha, hb, hx, hz, q1, q2⟩ := h
  cases rx
  cases ry
  obtain ⟨its, r1, p1, _⟩ := I.tuple ha
  obtain ⟨its2, r2, p2, _⟩ := I.tuple hb
  refine HT.cat_tup p1 p2 (fun z => hx (r1.nil_iff.mp z)) (fun z => ⟨.ref a, H, I, rfl, q1 (r2.nil_iff.mp z)⟩) (fun z => ?_) (by rw [← r1.length, ← r2.length]; exact hz)
  refine ⟨.ref s.heap.objs.size, _, I.laid (t' := s.toks) (o := .tup (xs ++ ys)) (fun b ob q => Heap.get?_push_of_some _ q) (Nat.le_refl _) ?_, rfl, q2 (fun w => z (r2.nil_iff.mpr w)) _ (I.hok.fresh (Nat.le_refl _))⟩
  exact ⟨by rw [List.length_append]; exact hz, _, r1.append r2, IsTup.new _ _⟩
end
end L2
namespace L2
open PySem PySem.Spec PyProof.Rows
noncomputable def ixN (n : Nat) (i : Int) : Option Nat := if 0 ≤ i then (if i < n then some i.toNat else none) else if -(n : Int) ≤ i then some (i + n).toNat else none
noncomputable def atI {α : Type} (xs : List α) (i : Int) : Option α := (ixN xs.length i).bind fun j => xs[j]?
theorem ixN_seq {n : Nat} {i : Int} {j : Nat} (h : ixN n i = some j) : seqIndex? i n = some j ∧ j < n ∧ -(n : Int) ≤ i ∧ i < n := by
  unfold ixN at h
  by_cases h0 : 0 ≤ i
  · rw [if_pos h0] at h
    by_cases h1 : i < n
    · rw [if_pos h1] at h
      have e : i.toNat = j := Option.some.inj h
      exact ⟨by rw [seqIndex_of h0 h1, e], by omega, by omega, h1⟩
    · rw [if_neg h1] at h; cases h
  · rw [if_neg h0] at h
    by_cases h1 : -(n : Int) ≤ i
    · rw [if_pos h1] at h
      have e : (i + n).toNat = j := Option.some.inj h
      exact ⟨by rw [seqIndex_neg (by omega) h1, e], by omega, h1, by omega⟩
    · rw [if_neg h1] at h; cases h
theorem atI_get {α : Type} {xs : List α} {i : Int} {v : α} (h : atI xs i = some v) : ∃ j, seqIndex? i xs.length = some j ∧ xs[j]? = some v ∧ j < xs.length ∧ -(xs.length : Int) ≤ i ∧ i < xs.length := by
  unfold atI at h
  cases e : ixN xs.length i with
  | none => rw [e] at h; cases h
  | some j =>
    rw [e] at h
    obtain ⟨h1, h2, h3, h4⟩ := ixN_seq e
    exact ⟨j, h1, h, h2, h3, h4⟩
noncomputable def PlainIx (b : Expr) : Prop := ∀ o i, subscripted b false o i = operate [o, i] (getItem o i)
noncomputable def IxR (X : Cx) (r : R2) : Prop :=
  ∀ (value slice : Expr) (pins : List (Addr × Obj)) (s : Shared) (σ : St) (H : Hp) (x y : V) (v u : Value) (Q : VK), Inv X pins σ H s → RelV x v → RelV y u → r x y H Q →
    subscripted slice false v u = operate [v, u] (getItem v u) → wpAny (model X.prog X.w) X.A (subscriptTail value slice v u) (EP X pins σ Q) X.xe s
noncomputable def MtR (X : Cx) (id : String) (r : V → List V → Hp → VK → Prop) : Prop :=
  ∀ (pins : List (Addr × Obj)) (s : Shared) (σ : St) (H : Hp) (x : V) (xs : List V) (v : Value) (us : List Value) (Q : VK), Inv X pins σ H s → RelV x v → Vals xs us → r x xs H Q →
    wpAny (model X.prog X.w) X.A (call (.builtin id) (v :: us)) (EP X pins σ Q) X.xe s
section
variable {X : Cx} {a b : Expr} {ta tb : TE} {pos : Pos}
theorem IxR.or {r r' : R2} (h : IxR X r) (h' : IxR X r') : IxR X (fun x y H Q => r x y H Q ∨ r' x y H Q) := by
  intro value slice pins s σ H x y v u Q I rx ry q hs
  rcases q with q | q
  · exact h value slice pins s σ H x y v u Q I rx ry q hs
  · exact h' value slice pins s σ H x y v u Q I rx ry q hs
theorem pe_ix {r : R2} (hr : IxR X r) (ha : PE X a ta) (hb : PE X b tb) (hs : PlainIx b) : PE X (.Subscript a b pos) (tOp r ta tb) := by
  intro pins s σ H Q I h
  exact Subscript_ (binT ha hb I h fun v u s2 x y H2 I2 rx ry q => hr a b pins s2 σ H2 x y v u Q I2 rx ry q (hs _ _))
noncomputable def rIxL (K : PySem.W.Frag) : R2 := fun x y H Q => ∃ p xs i v, x = .ref p ∧ y = .int i ∧ SqL K H p xs ∧ atI xs i = some v ∧ Q v H
noncomputable def rIxT (K : PySem.W.Frag) : R2 := fun x y H Q => ∃ p xs i v, x = .ref p ∧ y = .int i ∧ SqT K H p xs ∧ atI xs i = some v ∧ Q v H
theorem ix_list : IxR X (rIxL X.K) := by
  intro value slice pins s σ H x y v u Q I rx ry h hs
  obtain ⟨p, xs, i, z, rfl, rfl, hq, he, q⟩ := h
  cases rx
  obtain ⟨t, rfl⟩ := ry
  obtain ⟨its, r, pl, hz⟩ := I.list hq
  obtain ⟨j, h1, h2, h3, h4, h5⟩ := atI_get he
  obtain ⟨w, ew, rw'⟩ := r.get h2
  have hl := r.length
  have hn := line63
  have fin : EP X pins σ Q w s := ⟨z, H, I, rw', q⟩
  by_cases h0 : 0 ≤ i
  · have hj : i.toNat = j := by
      rw [seqIndex_of h0 h5] at h1
      exact Option.some.inj h1
    exact item_listR pl.isList h0 (by omega) (by rw [hj]; simpa using ew) fin hs
  · have hj : (i + (its.toArray.size : Int)).toNat = j := by
      rw [seqIndex_neg (by omega) h4] at h1
      rw [List.size_toArray, ← hl]
      exact Option.some.inj h1
    exact subscriptTail_builtinR (x := w) pl.isList.typeIs slot_list_getitem.lookup
      (wpAny_getItem_list_neg (Q := fun r s' => r = w ∧ EP X pins σ Q r s') pl.isList (by omega) (by rw [List.size_toArray] <;> omega) (by omega) (by rw [hj]; simpa using ew) ⟨rfl, fin⟩) hs
theorem ix_tup : IxR X (rIxT X.K) := by
  intro value slice pins s σ H x y v u Q I rx ry h hs
  obtain ⟨p, xs, i, z, rfl, rfl, hq, he, q⟩ := h
  cases rx
  obtain ⟨t, rfl⟩ := ry
  obtain ⟨its, r, pl, hz⟩ := I.tuple hq
  obtain ⟨j, h1, h2, h3, h4, h5⟩ := atI_get he
  obtain ⟨w, ew, rw'⟩ := r.get h2
  have hl := r.length
  have hn := line63
  have fin : EP X pins σ Q w s := ⟨z, H, I, rw', q⟩
  exact subscriptTail_builtinR (x := w) pl.typeIs slot_tuple_getitem.lookup
    (getItem_tuple (j := j) (Q := fun r s' => r = w ∧ EP X pins σ Q r s') pl (by omega) (by omega) (by rw [List.size_toArray, ← hl]; exact h1) (by simpa using ew) ⟨rfl, fin⟩) hs
theorem mapSeq_set (its : List Value) (n j : Nat) (u : Value) : Obj.mapSeq (·.setIfInBounds j u) { cls := .type "list", data := .seq its.toArray n } = { cls := .type "list", data := .seq (its.set j u).toArray n } := by
  simp [Obj.mapSeq]
theorem Inv.lst {pins : List (Addr × Obj)} {σ : St} {H : Hp} {s : Shared} {p : Addr} {xs : List V} (I : Inv X pins σ H s) (h : H p = some (.lst xs)) :
    ∃ (its : List Value) (n : Nat), Vals xs its ∧ s.heap.get? p = some { cls := .type "list", data := .seq its.toArray n } ∧ xs.length ≤ sizeLine := by
  obtain ⟨z, its, n, r, e⟩ := I.hok p _ h
  exact ⟨its, n, r, e, z⟩
theorem Inv.lstUpd {pins : List (Addr × Obj)} {σ : St} {H : Hp} {s : Shared} {p : Addr} {xs ys : List V} {its its' : List Value} {n n' : Nat} {f : Obj → Obj} (I : Inv X pins σ H s) (h : H p = some (.lst xs))
    (ho : s.heap.get? p = some { cls := .type "list", data := .seq its.toArray n }) (hf : f { cls := .type "list", data := .seq its.toArray n } = { cls := .type "list", data := .seq its'.toArray n' }) (r : Vals ys its') (hz : ys.length ≤ sizeLine) (t : Nat) :
    Inv X pins σ (upd H p (.lst ys)) { s with heap := s.heap.update p f, toks := t } := by
  have e : (s.heap.update p f).get? p = some { cls := .type "list", data := .seq its'.toArray n' } := by
    rw [Heap.get?_update_self f ho (by rw [hf] <;> rfl), hf]
  refine I.write (x := p) (e := p) (by rw [h]; trivial) (.inl rfl) (fun b u hb q => (Heap.get?_update_other _ _ (Ne.symm hb)).trans q) ⟨_, e⟩ ?_
  exact ⟨hz, its', n', r, e⟩
noncomputable def rSetL : V → V → V → Hp → (Hp → Prop) → Prop := fun o i v H Q => ∃ p xs k j, o = .ref p ∧ i = .int k ∧ H p = some (.lst xs) ∧ ixN xs.length k = some j ∧ Q (upd H p (.lst (xs.set j v)))
theorem set_list : PSet X rSetL := by
  intro pins s σ H o i v ov iv u Q I ro ri rv h
  obtain ⟨p, xs, k, j, rfl, rfl, hp, hj, q⟩ := h
  cases ro
  obtain ⟨t, rfl⟩ := ri
  obtain ⟨its, n, r, ho, hz⟩ := I.lst hp
  obtain ⟨h1, h2, h3, h4⟩ := ixN_seq hj
  have hl := r.length
  have hn := line63
  have I' : Inv X pins σ (upd H p (.lst (xs.set j v))) { s with heap := s.heap.update p (Obj.mapSeq (·.setIfInBounds j u)) } :=
    I.lstUpd hp ho (mapSeq_set its n j u) (r.set rv j) (by rw [List.length_set]; exact hz) s.toks
  by_cases h0 : 0 ≤ k
  · have hk : k.toNat = j := by
      rw [seqIndex_of h0 h4] at h1
      exact Option.some.inj h1
    exact PySem.W.ki_setAt ho h0 (by omega) (by rw [List.size_toArray, ← hl]; exact h4) (by rw [hk]; exact ⟨_, I', q⟩)
  · have hk : (k + (its.toArray.size : Int)).toNat = j := by
      rw [seqIndex_neg (by omega) h3] at h1
      rw [List.size_toArray, ← hl]
      exact Option.some.inj h1
    exact PySem.W.ki_setBack ho (by omega) (by rw [List.size_toArray, ← hl]; exact h3) (by omega) (by rw [hk]; exact ⟨_, I', q⟩)
noncomputable def flatV : V → Bool
  | .non => true
  | .bl _ => true
  | .int _ => true
  | .str _ => true
  | _ => false
noncomputable def eqV : V → V → Bool
  | .non, .non => true
  | .bl a, .bl b => a == b
  | .bl a, .int b => (if a then 1 else 0) == b
  | .int a, .bl b => a == (if b then 1 else 0)
  | .int a, .int b => a == b
  | .str a, .str b => a == b
  | _, _ => false
theorem eqAt_V {A : Around} {s : Shared} {y x : V} {u v : Value} (ry : RelV y u) (rx : RelV x v) (fy : flatV y = true) (fx : flatV x = true) : SeqAt.EqAt A s u v (eqV y x) := by
  cases y with
  | non =>
    cases ry
    cases x with
    | non => cases rx; exact SeqAt.EqAt.same _
    | bl b => cases rx; exact SeqAt.EqAt.none_bool b
    | int b => obtain ⟨t, rfl⟩ := rx; exact SeqAt.EqAt.none_int b t
    | str b => obtain ⟨t, rfl⟩ := rx; exact SeqAt.EqAt.none_str b t
    | _ => exact absurd (show false = true from fx) Bool.false_ne_true
  | bl a =>
    cases ry
    cases x with
    | non => cases rx; exact SeqAt.EqAt.bool_none a
    | bl b => cases rx; exact SeqAt.EqAt.bool_bool a b
    | int b => obtain ⟨t, rfl⟩ := rx; exact SeqAt.EqAt.bool_int a b t
    | str b => obtain ⟨t, rfl⟩ := rx; exact SeqAt.EqAt.bool_str a b t
    | _ => exact absurd (show false = true from fx) Bool.false_ne_true
  | int a =>
    obtain ⟨t', rfl⟩ := ry
    cases x with
    | non => cases rx; exact SeqAt.EqAt.int_none a t'
    | bl b => cases rx; exact SeqAt.EqAt.int_bool a t' b
    | int b => obtain ⟨t, rfl⟩ := rx; exact SeqAt.EqAt.int_int a t' b t
    | str b => obtain ⟨t, rfl⟩ := rx; exact SeqAt.EqAt.int_str a t' b t
    | _ => exact absurd (show false = true from fx) Bool.false_ne_true
  | str a =>
    obtain ⟨t', rfl⟩ := ry
    cases x with
    | non => cases rx; exact SeqAt.EqAt.str_none a t'
    | bl b => cases rx; exact SeqAt.EqAt.str_bool a t' b
    | int b => obtain ⟨t, rfl⟩ := rx; exact SeqAt.EqAt.str_int a t' b t
    | str b => obtain ⟨t, rfl⟩ := rx; exact SeqAt.EqAt.str_str a t' b t
    | _ => exact absurd (show false = true from fx) Bool.false_ne_true
  | _ => exact absurd (show false = true from fy) Bool.false_ne_true
noncomputable def eqU (x : V) (u : Value) : Bool := match u with
  | .none => eqV .non x
  | .bool b => eqV (.bl b) x
  | .int i _ => eqV (.int i) x
  | .str z _ => eqV (.str z) x
  | _ => false
theorem eqU_of {x y : V} {u : Value} (r : RelV y u) (f : flatV y = true) : eqU x u = eqV y x := by
  cases y with
  | non => cases r; rfl
  | bl b => cases r; rfl
  | int i => obtain ⟨t, rfl⟩ := r; rfl
  | str z => obtain ⟨t, rfl⟩ := r; rfl
  | _ => exact absurd (show false = true from f) Bool.false_ne_true
theorem any_eqU {x : V} : ∀ {xs : List V} {us : List Value}, Vals xs us → xs.all flatV = true → us.any (eqU x) = xs.any fun y => eqV y x
  | _, _, .nil, _ => rfl
  | y :: xs, u :: us, .cons r t, f => by
    rw [List.all_cons, Bool.and_eq_true] at f
    rw [List.any_cons, List.any_cons, eqU_of r f.1, any_eqU t f.2]
theorem mem_eqAt {A : Around} {s : Shared} {x : V} {v : Value} (rx : RelV x v) (fx : flatV x = true) : ∀ {xs : List V} {us : List Value}, Vals xs us → xs.all flatV = true → ∀ u ∈ us, SeqAt.EqAt A s u v (eqU x u)
  | _, _, .nil, _ => fun u hu => by cases hu
  | y :: xs, u :: us, .cons r t, f => fun u' hu => by
    rw [List.all_cons, Bool.and_eq_true] at f
    rcases List.mem_cons.mp hu with rfl | hu
    · rw [eqU_of r f.1]; exact eqAt_V r rx f.1 fx
    · exact mem_eqAt rx fx t f.2 u' hu
noncomputable def inV (x : V) (xs : List V) : Bool := xs.any fun y => eqV y x
noncomputable def rIn (K : PySem.W.Frag) (neg : Bool) : R2 := fun x y H Q => ∃ p xs, y = .ref p ∧ (SqL K H p xs ∨ SqT K H p xs) ∧ flatV x = true ∧ xs.all flatV = true ∧ Q (.bl (if neg then !inV x xs else inV x xs)) H
theorem op_in_seq : OpR X (compareOp .In) (rIn X.K false) := by
  intro pins s σ H x y v u Q I rx ry h
  obtain ⟨p, xs, rfl, hq, fx, fs, q⟩ := h
  cases ry
  rcases hq with hq | hq
  · obtain ⟨its, r, pl, hz⟩ := I.list hq
    refine SeqAt.in_listAt (eqU x) pl.isList (fun w hw => mem_eqAt rx fx r fs w (by simpa using hw)) ⟨.bl _, H, I, rfl, ?_⟩
    rw [show its.toArray.any (eqU x) = its.any (eqU x) by simp, any_eqU r fs]
    exact q
  · obtain ⟨its, r, pl, hz⟩ := I.tuple hq
    refine SeqAt.in_tupleAt (eqU x) pl (fun w hw => mem_eqAt rx fx r fs w (by simpa using hw)) ⟨.bl _, H, I, rfl, ?_⟩
    rw [show its.toArray.any (eqU x) = its.any (eqU x) by simp, any_eqU r fs]
    exact q
theorem op_notIn_seq : OpR X (compareOp .NotIn) (rIn X.K true) := by
  intro pins s σ H x y v u Q I rx ry h
  obtain ⟨p, xs, rfl, hq, fx, fs, q⟩ := h
  cases ry
  rcases hq with hq | hq
  · obtain ⟨its, r, pl, hz⟩ := I.list hq
    refine SeqAt.notIn_listAt (eqU x) pl.isList (fun w hw => mem_eqAt rx fx r fs w (by simpa using hw)) ⟨.bl _, H, I, rfl, ?_⟩
    rw [show its.toArray.any (eqU x) = its.any (eqU x) by simp, any_eqU r fs]
    exact q
  · obtain ⟨its, r, pl, hz⟩ := I.tuple hq
    refine SeqAt.notIn_tupleAt (eqU x) pl (fun w hw => mem_eqAt rx fx r fs w (by simpa using hw)) ⟨.bl _, H, I, rfl, ?_⟩
    rw [show its.toArray.any (eqU x) = its.any (eqU x) by simp, any_eqU r fs]
    exact q
theorem call_len_seq : CallR X (.builtin "len") (fun xs H Q => ∃ p ys, xs = [.ref p] ∧ (SqL X.K H p ys ∨ SqT X.K H p ys) ∧ Q (.int ys.length) H) := by
  intro pins s σ H xs us Q I r h
  obtain ⟨p, ys, rfl, hq, q⟩ := h
  obtain ⟨u, rfl, rx⟩ := vals1 r
  cases rx
  have hn := line63
  rcases hq with hq | hq
  · obtain ⟨its, r', pl, hz⟩ := I.list hq
    have hlen := r'.length
    exact Calls.call_len_list pl.isList (by simp only [List.size_toArray] <;> omega) ⟨.int ys.length, H, I.tok _, ⟨s.toks + 1, by rw [List.size_toArray, hlen]⟩, q⟩
  · obtain ⟨its, r', pl, hz⟩ := I.tuple hq
    have hlen := r'.length
    exact len_tuple pl (by simp only [List.size_toArray] <;> omega) ⟨.int ys.length, H, I.tok _, ⟨s.toks + 1, by rw [List.size_toArray, hlen]⟩, q⟩
theorem call_tuple_of : CallR X (.type "tuple") (fun xs H Q => ∃ p ys, xs = [.ref p] ∧ ((SqL X.K H p ys ∧ ∀ l, H l = none → Q (.ref l) (upd H l (.tup ys))) ∨ (SqT X.K H p ys ∧ Q (.ref p) H))) := by
  intro pins s σ H xs us Q I r h
  obtain ⟨p, ys, rfl, h⟩ := h
  obtain ⟨u, rfl, rx⟩ := vals1 r
  cases rx
  rcases h with ⟨hq, q⟩ | ⟨hq, q⟩
  · obtain ⟨its, r', pl, hz⟩ := I.list hq
    have hlen := r'.length
    refine call_tuple_list pl.isList (fun h' kp => ?_) (by simp only [List.size_toArray] <;> omega)
    have I1 : Inv X pins σ H { s with heap := h' } := I.kept (t' := s.toks) kp
    have I2 : Inv X pins σ (upd H h'.objs.size (.tup ys)) { s with heap := h'.push { cls := .type "tuple", data := .seq its.toArray } } :=
      I1.laid (t' := s.toks) (fun b o e => Heap.get?_push_of_some _ e) (Nat.le_refl _) (show ObjOk X.prog X.w _ _ _ (.tup ys) from ⟨hz, its, r', IsTup.new _ _⟩)
    exact ⟨.ref h'.objs.size, _, I2, rfl, q _ (I1.hok.fresh (Nat.le_refl _))⟩
  · obtain ⟨its, r', pl, hz⟩ := I.tuple hq
    exact call_tuple_same pl ⟨.ref p, H, I, rfl, q⟩
noncomputable def tyV (K : PySem.W.Frag) (T : String) (x : V) (H : Hp) : Prop := match x with
  | .str _ => T = "str"
  | .int _ => T = "int"
  | .ref p => (T = "list" ∧ ∃ xs, SqL K H p xs) ∨ (T = "tuple" ∧ ∃ o, K.lookup p = some o ∧ o.cls = .type "tuple" ∧ o.dict = none) ∨
      (T = "dict" ∧ ((∃ kvs, H p = some (.dK kvs)) ∨ ∃ kvs, H p = some (.dT kvs))) ∨ (T = "set" ∧ ∃ S n, H p = some (.set S n))
  | _ => False
theorem tyV_is {pins : List (Addr × Obj)} {σ : St} {H : Hp} {s : Shared} {T : String} {x : V} {v : Value} (I : Inv X pins σ H s) (r : RelV x v) (ty : tyV X.K T x H) :
    s.TypeIs v T ∧ ∀ a, v = .ref a → ∃ ob, s.heap.get? a = some ob ∧ ob.dict = none := by
  cases x with
  | str z =>
    obtain ⟨t, rfl⟩ := r
    cases (show T = "str" from ty)
    exact ⟨typeIs_str s z t, fun _ e => nomatch e⟩
  | int i =>
    obtain ⟨t, rfl⟩ := r
    cases (show T = "int" from ty)
    exact ⟨typeIs_int s i t, fun _ e => nomatch e⟩
  | ref p =>
    cases r
    rcases ty with ⟨rfl, xs, hq⟩ | ⟨rfl, o, hk, hc, hd⟩ | ⟨rfl, hk⟩ | ⟨rfl, S, n, hk⟩
    · obtain ⟨its, _, pl, _⟩ := I.list hq
      refine ⟨pl.isList.typeIs, fun a e => ?_⟩
      cases e
      obtain ⟨o, n, e, c, hd, _⟩ := pl
      exact ⟨o, e, hd⟩
    · refine ⟨⟨o, I.kIn p o hk, hc⟩, fun a e => ?_⟩
      cases e
      exact ⟨o, I.kIn _ o hk, hd⟩
    · have z : ∃ o, s.heap.get? p = some o ∧ o.ExactDict := by
        rcases hk with ⟨kvs, hk⟩ | ⟨kvs, hk⟩
        · obtain ⟨_, _, _, _, o, _, _, e, ex, _⟩ := I.hok p _ hk
          exact ⟨o, e, ex⟩
        · obtain ⟨_, _, _, _, o, _, _, e, ex, _⟩ := I.hok p _ hk
          exact ⟨o, e, ex⟩
      obtain ⟨o, e, ex⟩ := z
      refine ⟨⟨o, e, ex.1⟩, fun a e2 => ?_⟩
      cases e2
      exact ⟨o, e, ex.2.1⟩
    · obtain ⟨o, _, _, _, e, ex, _⟩ := I.hok p _ hk
      refine ⟨⟨o, e, ex.1⟩, fun a e2 => ?_⟩
      cases e2
      exact ⟨o, e, ex.2.1⟩
  | _ => exact False.elim ty
noncomputable def tBM (K : PySem.W.Frag) (T : String) (r : V → List V → Hp → VK → Prop) (to : TE) (t : TA) : TE := fun σ H Q => to σ H fun x H1 => tyV K T x H1 ∧ t σ H1 fun xs H2 => r x xs H2 Q
variable {o e : Expr} {es : List Expr} {to : TE} {t : TA} {name : Str} {apos cpos : Pos} {T id : String} {r : V → List V → Hp → VK → Prop}
theorem pe_bm (pa : PlainAttrs T) (slot : Slot T name id) (hty : typeOf (.builtin id) = pure (.type "method_descriptor")) (hm : MtR X id r) (ho : PE X o to) (ha : PA X (e :: es) t)
    (hbase : attributeBase o name X.env (eval o X.env) = eval o X.env := by rfl)
    (hfew : ((backTo cpos (starEach (e :: es) X.env)).all (fun x => !x.1) && (backToKw cpos (keywordEach [] X.env)).all (fun x => x.1.isSome)
      && decide ((e :: es).length + ([] : List Keyword).length + (if ([] : List Keyword).isEmpty then 0 else 1) < 30)) = true := by rfl)
    (hline : (apos.endLine == cpos.line) = true := by rfl) (hs : starEach (e :: es) X.env = (false, eval e X.env) :: starEach es X.env := by rfl) (hplain : (backTo cpos (starEach es X.env)).any (·.1) = false := by rfl) :
    PE X (.Call (.Attribute o name apos) (e :: es) [] cpos) (tBM X.K T r to t) := by
  intro pins s σ H Q I h
  refine wpAny_Call_method_late hbase hfew hline rfl (thn (ho pins s σ H _ I h) fun v s1 ⟨x, H1, I1, r1, ty, q1⟩ => ?_)
  obtain ⟨h1, h2⟩ := tyV_is I1 r1 ty
  refine ⟨T, id, pa, slot, hty, h1, h2, ?_⟩
  have hA := ha cpos pins s1 σ H1 _ I1 q1
  rw [hs] at hA ⊢
  refine Calls.callWith_builtin (by show (false || (backTo cpos (starEach es X.env)).any (·.1)) = false; rw [hplain] <;> rfl) (Calls.evalArgs_plain ?_)
  exact thn hA fun us s2 hq6 => by obtain ⟨vs, H2, I2, r2, q2⟩ := hq6; exact hm pins s2 σ H2 x vs v us Q I2 r1 r2 q2
end
end L2
namespace L2
open PySem PySem.Spec PyProof.Rows
noncomputable def MtM (X : Cx) (id : String) (r : V → List V → Hp → VK → Prop) : Prop :=
  ∀ (pins : List (Addr × Obj)) (s : Shared) (σ : St) (H : Hp) (x : V) (xs : List V) (v : Value) (us : List Value) (Q : VK), Inv X pins σ H s → RelV x v → Vals xs us → r x xs H Q →
    wpAny (model X.prog X.w) X.A (call (.builtin id) (v :: us)) (EP X pins σ Q) X.xe s
theorem Vals.one : ∀ {x : V} {us : List Value}, Vals [x] us → ∃ u, us = [u] ∧ RelV x u
  | _, _, .cons r .nil => ⟨_, rfl, r⟩
theorem Vals.eraseIdx : ∀ {xs : List V} {us : List Value} (i : Nat), Vals xs us → Vals (xs.eraseIdx i) (us.eraseIdx i)
  | _, _, _, .nil => .nil
  | _, _, 0, .cons _ t => t
  | _, _, i + 1, .cons r t => .cons r (Vals.eraseIdx i t)
theorem Vals.rep {xs : List V} {us : List Value} (h : Vals xs us) : ∀ k : Nat, Vals (List.replicate k xs).flatten (List.replicate k us).flatten
  | 0 => .nil
  | k + 1 => by
    rw [List.replicate_succ, List.replicate_succ, List.flatten_cons, List.flatten_cons]
    exact Vals.append h (Vals.rep h k)
theorem len_erase {α : Type} : ∀ (l : List α) (i : Nat), (l.eraseIdx i).length ≤ l.length
  | [], _ => Nat.le_refl _
  | _ :: _, 0 => Nat.le_succ _
  | _ :: r, i + 1 => Nat.succ_le_succ (len_erase r i)
theorem foldl_rep (its : List Value) : ∀ (k : Nat) (acc : List Value),
    List.foldl (fun x1 x2 => x1 ++ x2) acc.toArray (List.replicate k its.toArray) = (acc ++ (List.replicate k its).flatten).toArray
  | 0, acc => by simp
  | k + 1, acc => by
    have e : acc.toArray ++ its.toArray = (acc ++ its).toArray := by simp
    have e2 : (acc ++ its) ++ (List.replicate k its).flatten = acc ++ (List.replicate (k + 1) its).flatten := by
      rw [List.replicate_succ, List.flatten_cons, List.append_assoc]
    rw [← e2, ← foldl_rep its k (acc ++ its), ← e, List.replicate_succ, List.foldl_cons]
section
variable {X : Cx} {pins : List (Addr × Obj)} {σ : St} {H : Hp} {s : Shared} {l b : Addr} {xs ys zs : List V}
theorem Inv.lset {its its' : List Value} {n : Nat} {f : Array Value → Array Value} {t' : Nat} (I : Inv X pins σ H s) (hH : H l = some (.lst xs))
    (e : s.heap.get? l = some { cls := .type "list", data := .seq its.toArray n }) (hf : f its.toArray = its'.toArray) (hv : Vals ys its') (hz : ys.length ≤ sizeLine) :
    Inv X pins σ (upd H l (.lst ys)) { s with heap := s.heap.update l (Obj.mapSeq f), toks := t' } := by
  have q := PySem.IsL.update e f
  rw [hf] at q
  refine I.write (x := l) (e := l) (by rw [hH]; exact trivial) (.inl rfl) (fun b' u hb hu => (Heap.get?_update_other s.heap (Obj.mapSeq f) (Ne.symm hb)).trans hu) ⟨_, q⟩ ?_
  exact ⟨hz, its', _, hv, q⟩
theorem Inv.lnew {its : List Value} {t' : Nat} (I : Inv X pins σ H s) (hv : Vals ys its) (hz : ys.length ≤ sizeLine) :
    Inv X pins σ (upd H s.heap.objs.size (.lst ys)) { s with heap := s.heap.push { cls := .type "list", data := .seq its.toArray }, toks := t' } :=
  I.laid (fun _ _ q => Heap.get?_push_of_some _ q) (Nat.le_refl _) ⟨hz, its, 0, hv, Heap.get?_push_size _ rfl⟩
theorem Inv.fresh (I : Inv X pins σ H s) : H s.heap.objs.size = none := I.hok.fresh (Nat.le_refl _)
theorem Inv.lstM (I : Inv X pins σ H s) (hH : H l = some (.lst xs)) : xs.length ≤ sizeLine ∧ ∃ (its : List Value) (n : Nat), Vals xs its ∧ xs.length = its.length ∧ s.heap.get? l = some { cls := .type "list", data := .seq its.toArray n } := by
  obtain ⟨z, its, n, r, e⟩ := I.hok l _ hH
  exact ⟨z, its, n, r, r.length, e⟩
theorem notLongL {n : Nat} (h : n ≤ sizeLine) : Builtin.List.listTooLong n = false := by
  unfold Builtin.List.listTooLong
  exact decide_eq_false (by omega)
end
section
variable {X : Cx}
noncomputable def rAppend : V → List V → Hp → VK → Prop := fun x vs H Q => ∃ l xs y, x = .ref l ∧ vs = [y] ∧ H l = some (.lst xs) ∧ xs.length < sizeLine ∧ Q .non (upd H l (.lst (xs ++ [y])))
theorem mt_append : MtM X "list.append" rAppend := by
  intro pins s σ H x vs v us Q I rx rv h
  obtain ⟨l, xs, y, rfl, rfl, hH, hz, q⟩ := h
  cases rx
  obtain ⟨u, rfl, ru⟩ := rv.one
  obtain ⟨z, its, n, r, hl, e⟩ := I.lstM hH
  refine call_meets F.slot_list_append ⟨_, e, rfl⟩ F.entry_list_append (F.args_list_append_2 _ _) (PySem.list_append l its.toArray n u (by rw [List.size_toArray]; omega)) ⟨e, ?_⟩
  refine ⟨.non, _, I.lset (its' := its ++ [u]) hH e (by simp) (r.append (.cons ru .nil)) ?_, rfl, q⟩
  rw [List.length_append, List.length_singleton]
  omega
noncomputable def rExtend : V → List V → Hp → VK → Prop := fun x vs H Q => ∃ l b xs zs, x = .ref l ∧ vs = [.ref b] ∧ H l = some (.lst xs) ∧ H b = some (.lst zs) ∧ xs.length + zs.length ≤ sizeLine ∧ Q .non (upd H l (.lst (xs ++ zs)))
theorem mt_extend : MtM X "list.extend" rExtend := by
  intro pins s σ H x vs v us Q I rx rv h
  obtain ⟨l, b, xs, zs, rfl, rfl, hH, hB, hz, q⟩ := h
  cases rx
  obtain ⟨u, rfl, ru⟩ := rv.one
  cases ru
  obtain ⟨z, its, n, r, hl, e⟩ := I.lstM hH
  obtain ⟨z2, its2, n2, r2, hl2, e2⟩ := I.lstM hB
  have hsz : its.toArray.size + its2.toArray.size ≤ sizeLine := by rw [List.size_toArray, List.size_toArray]; omega
  have hlong : ¬ (!its.toArray.isEmpty && Builtin.List.listTooLong (its.toArray.size + its2.toArray.size)) = true := by
    rw [notLongL hsz, Bool.and_false]
    exact Bool.false_ne_true
  refine call_meets F.slot_list_extend ⟨_, e, rfl⟩ F.entry_list_extend (F.args_list_extend_2 _ _)
    (AutoSeq1.list_extend_list_list_0 l its.toArray n b its2.toArray n2 hlong (by rw [List.size_toArray]; omega) (by omega)) ⟨e, e2, ?_⟩
  refine ⟨.non, _, I.lset (its' := its ++ its2) hH e (by simp) (r.append r2) ?_, rfl, q⟩
  rw [List.length_append]
  omega
noncomputable def rPopAt : V → List V → Hp → VK → Prop := fun x vs H Q => ∃ l xs i k y, x = .ref l ∧ vs = [.int i] ∧ H l = some (.lst xs) ∧ -(2 ^ 63) ≤ i ∧ i < 2 ^ 63 ∧ seqIndex? i xs.length = some k ∧ xs[k]? = some y ∧ Q y (upd H l (.lst (xs.eraseIdx k)))
theorem mt_popAt : MtM X "list.pop" rPopAt := by
  intro pins s σ H x vs v us Q I rx rv h
  obtain ⟨l, xs, i, k, y, rfl, rfl, hH, h1, h2, hk, hy, q⟩ := h
  cases rx
  obtain ⟨u, rfl, ru⟩ := rv.one
  obtain ⟨t, rfl⟩ := ru
  obtain ⟨z, its, n, r, hl, e⟩ := I.lstM hH
  obtain ⟨w, hw, rw'⟩ := r.get hy
  refine call_meets F.slot_list_pop ⟨_, e, rfl⟩ F.entry_list_pop (F.args_list_pop_2 _ _)
    (MeetsSeq.list_pop_at l its.toArray n i t k w (fitsIndex_both h1 h2) (by rw [List.size_toArray, ← hl]; exact hk) (by rw [← Array.getElem?_toList]; exact hw) (by rw [List.size_toArray]; omega)) ⟨e, ?_⟩
  refine ⟨y, _, I.lset (its' := its.eraseIdx k) hH e ?_ (r.eraseIdx k) ?_, rw', q⟩
  · show its.toArray.eraseIdxIfInBounds k = (its.eraseIdx k).toArray
    rw [List.eraseIdxIfInBounds_toArray]
  · have := len_erase xs k
    omega
noncomputable def rCat : R2 := fun x y H Q => ∃ l b xs zs, x = .ref l ∧ y = .ref b ∧ H l = some (.lst xs) ∧ H b = some (.lst zs) ∧ xs.length + zs.length ≤ sizeLine ∧ ∀ p, H p = none → Q (.ref p) (upd H p (.lst (xs ++ zs)))
theorem op_cat : OpR X (binaryOp .Add) rCat := by
  intro pins s σ H x y v u Q I rx ry h
  obtain ⟨l, b, xs, zs, rfl, rfl, hH, hB, hz, q⟩ := h
  cases rx
  cases ry
  obtain ⟨z, its, n, r, hl, e⟩ := I.lstM hH
  obtain ⟨z2, its2, n2, r2, hl2, e2⟩ := I.lstM hB
  refine PySem.P.add_list e e2 ?_ (by rw [List.size_toArray, List.size_toArray]; omega)
  have ea : its.toArray ++ its2.toArray = (its ++ its2).toArray := by simp
  rw [ea]
  exact ⟨.ref _, _, I.lnew (t' := s.toks) (r.append r2) (by rw [List.length_append]; omega), rfl, q _ I.fresh⟩
noncomputable def rRep : R2 := fun x y H Q => ∃ l k xs, x = .ref l ∧ y = .int k ∧ H l = some (.lst xs) ∧ -(2 ^ 63) ≤ k ∧ k < 2 ^ 63 ∧ xs.length * k.toNat ≤ sizeLine ∧
  ∀ p, H p = none → Q (.ref p) (upd H p (.lst (List.replicate k.toNat xs).flatten))
theorem len_rep {α : Type} (xs : List α) (k : Nat) : (List.replicate k xs).flatten.length = k * xs.length := by
  induction k with
  | zero => simp
  | succ k ih => rw [List.replicate_succ, List.flatten_cons, List.length_append, ih, Nat.succ_mul, Nat.add_comm]
theorem op_rep : OpR X (binaryOp .Mult) rRep := by
  intro pins s σ H x y v u Q I rx ry h
  obtain ⟨l, k, xs, rfl, rfl, hH, h1, h2, hz, q⟩ := h
  cases rx
  obtain ⟨t, rfl⟩ := ry
  obtain ⟨z, its, n, r, hl, e⟩ := I.lstM hH
  have hlen : its.toArray.size * k.toNat ≤ sizeLine := by rw [List.size_toArray, ← hl]; exact hz
  have hcap : ¬ its.toArray.size * k.toNat > (2 ^ 63 - 1) / 8 := by
    have : (sizeLine : Nat) ≤ (2 ^ 63 - 1) / 8 := by decide
    omega
  have hfit : ¬ (!Builtin.List.listFitsIndex k) = true := by
    rw [fitsIndex_both h1 h2]
    exact Bool.false_ne_true
  have hlong : ¬ Builtin.List.listTooLong (its.toArray.size * k.toNat) = true := by
    rw [notLongL hlen]
    exact Bool.false_ne_true
  have hnew : List.foldl (fun x1 x2 => x1 ++ x2) #[] (List.replicate (if its.toArray.isEmpty = true then 0 else k.toNat) its.toArray) = (List.replicate k.toNat its).flatten.toArray := by
    have f0 : ∀ m : Nat, List.foldl (fun x1 x2 => x1 ++ x2) #[] (List.replicate m its.toArray) = (List.replicate m its).flatten.toArray := fun m => by
      have := foldl_rep its m []
      rw [List.nil_append] at this
      exact this
    rw [f0]
    cases its with
    | nil => simp
    | cons a r' => rw [if_neg (by simp)]
  refine wpAny_binaryOp_repeat_ref (T := "list") (U := "int") (by decide) ⟨_, e, rfl⟩ (fun s' => typeIs_int s' k t) noFill_list_mul F.fills_int_mul F.slot_int_rmul repeat_list F.slot_int_index.lookup
    (call_meets F.slot_int_rmul (typeIs_int s k t) F.entry_int_rmul (F.args_int_rmul_2 _ _) (int___rmul___int_list k t l its.toArray n)
      ⟨e, rfl, ⟨_, e, rfl⟩, call_meets F.slot_list_mul ⟨_, e, rfl⟩ F.entry_list_mul (F.args_list_mul_2 _ _) (AutoListH.list___mul___list_int_3 l its.toArray n k t hfit hcap hlong) ⟨e, ?_⟩⟩)
  rw [hnew]
  exact ⟨.ref _, _, I.lnew (t' := s.toks) (r.rep k.toNat) (by rw [len_rep, Nat.mul_comm]; exact hz), rfl, q _ I.fresh⟩
end
section
variable {prog : Program} {w : World} {A : Around} {E : Value → Shared → Prop} {s : Shared}
set_option maxRecDepth 100000 in
end
section
variable {X : Cx}
end
end L2
namespace Att
open PySem PySem.W PySem.Calls PyProof.Rows
theorem ints_of_wellAll {P : Params} {h : Heap} : ∀ (ns : List Int) (vs : List Value), WellAll P h vs (ns.map WData.int) → IntsAre vs ns := by
  intro ns
  induction ns with
  | nil =>
    intro vs w
    rw [List.map_nil] at w
    cases w
    exact .nil
  | cons n ns ih =>
    intro vs w
    rw [List.map_cons] at w
    cases w with
    | cons a b =>
      cases a
      exact .cons _ _ (ih _ b)
theorem script_of {l : OpenLaw} {n : Nat} (hn : l.most = some n) {P : Params} {h : Heap} {args : List WData} {vals : List Value}
    (hpre : l.row.toRowW.claim.pre args = true) (hwl : WellAll P h vals args) :
    ∃ a vs ns, vals = [Value.ref a] ∧ args = [WData.list (ns.map WData.int)] ∧ h.get? a = some { cls := .type "list", data := .seq vs.toArray } ∧ IntsAre vs ns ∧ ns.length ≤ n := by
  have hsh : WShape.hasAll [] args [.list .int] = true := (pre_splitW hpre).1
  have hc : l.pre.holds [] { args := args } = true := (pre_splitW hpre).2
  obtain ⟨d, r, rfl, h1, h2⟩ := hasAllW_cons hsh
  obtain rfl := hasAllW_nil h2
  obtain ⟨xs, rfl, h3⟩ := hasW_list h1
  obtain ⟨ns, rfl⟩ := items_int h3
  have hlen : ns.length ≤ n := by
    unfold OpenLaw.pre at hc
    have h4 : (WTm.not (.lt (.lit (.int (n : Int))) (.len (.arg 0)))).holds [] { args := [.list (ns.map .int)] } = true := by
      have h4 := (holds_andW hc).1
      rw [hn] at h4
      exact h4
    have h5 := condW_of h4 (w_not (w_lt w_lit (w_len_list (w_arg rfl))))
    rw [List.length_map] at h5
    refine Nat.le_of_not_lt fun q => ?_
    have q' : (n : Int) < ((ns.length : Nat) : Int) := by omega
    first
      | (rw [decide_eq_true q'] at h5; exact absurd h5 (by decide))
      | (simp at h5; omega)
  cases hwl with
  | cons w1 w2 =>
    cases w2
    cases w1 with
    | list ho hall => exact ⟨_, _, ns, rfl, rfl, ho, ints_of_wellAll ns _ hall, hlen⟩
theorem post_true (l : OpenLaw) (args : List WData) : l.row.toRowW.claim.post args (.bool true) args = true :=
  postW_of (r := l.row.toRowW) (X := (true == true))
    (show WShape.has [] (.bool true) .bool = true by first | rfl | decide | simp [WShape.has, WShape.arms, WShape.armsAll])
    (show (WTm.eq .res (.lit (.bool true))).value [] { args := args, res := some (.bool true), after := args } = some (.bool (true == true)) from w_eq_bool (w_res rfl) w_lit) rfl
theorem attach_call {l : OpenLaw} {n : Nat} {q : Program} {loose : List Str} {XP : (Str → Option Value) → Heap → Prop} {YP : World → Heap → Prop} {d : DefRec}
    (hn : l.most = some n) (hdf : d.params.defaults = [])
    (call : ∀ (w : World) (s₀ s₁ : Shared) (mg mb : Str → Option Value) (fa : Addr) (o : Obj) (pm cd doc : Value) (a : Addr) (vs : List Value) (ns : List Int),
      Ground q loose [] XP w s₀ mg mb s₁.heap → YP w s₁.heap →
      s₁.heap.get? fa = some o → o.data = .func (docDef d.name d.params d.body d.scope pm cd doc) → s₁.heap.CodeRec cd d.name → mg d.name = some (.ref fa) →
      s₁.heap.get? a = some { cls := .type "list", data := .seq vs.toArray } → IntsAre vs ns → ns.length ≤ n → s₁.gens = #[] →
      codeAny (model l.prog w) callerA (.call (.ref fa) ⟨[.ref a], []⟩) (fun r s' => r = .ok (.ret (.bool true)) ∧ OldK s₁.heap s'.heap ∧ s'.os = s₁.os ∧ AllBare s'.gens) s₁) :
    WalkO q loose XP YP l.row.toRowW d [] (fun f vs => PySem.call f vs) := by
  intro w s₀ s₁ mg mb G Y fa o pm cd doc dV kV ho hd hcd hD hmg hg args vals as hpre hlay hrd hwl hlo
  obtain rfl : dV = .none := Dflts.none hD hdf
  obtain rfl : kV = .none := Dflts.noKw hD
  obtain ⟨a, vs, ns, rfl, rfl, hobj, hints, hlen⟩ := script_of hn hpre hwl
  refine enter_call (codeAny_mono (call w s₀ s₁ mg mb fa o pm cd doc a vs ns G Y ho (fd_plain hd) hcd hmg hobj hints hlen hg) fun r s' hq => ?_)
  obtain ⟨rfl, h2, h3, h4⟩ := hq
  exact ⟨.inl ⟨.bool true, .bool true, [], rfl, fun _ => rfl, .bool true, post_true l _, fun _ => ⟨List.Pairwise.nil, fun _ hm => (nomatch hm)⟩⟩, h2, h3, h4⟩
section
variable {prog : Program} {w : World} {A : Around} {E : Value → Shared → Prop} {s : Shared} {K : Frag}
noncomputable def noObjs (h : Heap) : Heap := { h with objs := #[] }
theorem noObjs_get (h : Heap) (b : Addr) : (noObjs h).get? b = none := by
  cases e : (noObjs h).get? b with
  | none => rfl
  | some o => exact absurd (Heap.lt_size e) (Nat.not_lt_zero _)
noncomputable def ledger (h : Heap) (L d : Addr) : List (Addr × Obj) := (List.range h.objs.size).filterMap fun a => if a = L ∨ a = d then none else (h.get? a).map fun o => (a, o)
theorem mem_ledger {h : Heap} {L d a : Addr} {o : Obj} : (a, o) ∈ ledger h L d ↔ a ≠ L ∧ a ≠ d ∧ h.get? a = some o := by
  unfold ledger
  rw [List.mem_filterMap]
  constructor
  · rintro ⟨b, _, e⟩
    split at e
    · cases e
    · rename_i hb
      obtain ⟨o', ho, e'⟩ := Option.map_eq_some_iff.mp e
      cases e'
      exact ⟨fun q => hb (.inl q), fun q => hb (.inr q), ho⟩
  · rintro ⟨n1, n2, ho⟩
    refine ⟨a, List.mem_range.mpr (Heap.lt_size ho), ?_⟩
    rw [if_neg (show ¬ (a = L ∨ a = d) from fun q => q.elim n1 n2), ho] <;> rfl
theorem fr_all {h : Heap} {L : Addr} {m : Str → Option Value} (n : h.Ns L m) : Fr (noObjs h) L h m :=
  ⟨n, fun b o e => (by rw [noObjs_get] at e; cases e), Nat.zero_le _⟩
end
end Att
namespace L2
open PySem PySem.Spec PyProof.Rows
theorem vals_ints : ∀ {vs : List Value} {ns : List Int}, IntsAre vs ns → Vals (ns.map V.int) vs
  | _, _, .nil => .nil
  | _, _, .cons n t h => .cons ⟨t, rfl⟩ (vals_ints h)
noncomputable def Only (H : Hp) : Prop := ∀ b, H b = none ∨ ∃ o xs, H b = some (.frz o (.lst xs))
theorem law_call {P : Program} {w : World} {K : PySem.W.Frag} {mg mb : Str → Option Value} {CX : CXT} {k : Nat} {fa a : Addr} {fd : FuncData} {x : Str} {sp : Sp} {s₁ : Shared} {vs : List Value} {ns : List Int}
    (KX : K.In s₁.heap) (hns : s₁.heap.Ns mainGlobals mg) (hb : s₁.heap.Ns builtinsNs mb) (hbb : ∀ x : Str, x ≠ "__name__" → mb x = bootBuiltins x) (hlim : s₁.heap.NoLimit) (hg : s₁.gens = #[])
    (ha : s₁.heap.get? a = some { cls := .type "list", data := .seq vs.toArray }) (hi : IntsAre vs ns) (hl : ns.length ≤ sizeLine) (hr : Room k callerA)
    (F : ∀ base : Heap, K.In base → base.Ns mainGlobals mg → FnOk P w K mg base CX k fa fd [x] sp) (hbind : ∀ (s : Shared) (u : Value), BindsTo s fd ⟨[u], []⟩ [(x, u)])
    (hsp : ∀ H : Hp, Only H → SqL K H a (ns.map V.int) → sp [.ref a] H (fun v _ => v = .bl true) fun _ _ _ => False)
    (hCX : ∀ H e s', CX [] H s₁ (fun _ _ _ => False) e s' → False) :
    codeAny (model P w) callerA (.call (.ref fa) ⟨[.ref a], []⟩) (fun r s' => r = .ok (.ret (.bool true)) ∧ OldK s₁.heap s'.heap ∧ s'.os = s₁.os ∧ AllBare s'.gens) s₁ := by
  have rv := vals_ints hi
  have lenV := hi.length
  -- from an abstract heap in which nothing but the script may be tracked
  have core : ∀ H : Hp, Only H → SqL K H a (ns.map V.int) → HOk P w H s₁.heap → (∀ b, H b ≠ none → b = a) → (H a ≠ none → K.lookup a = none) →
      codeAny (model P w) callerA (.call (.ref fa) ⟨[.ref a], []⟩) (fun r s' => r = .ok (.ret (.bool true)) ∧ OldK s₁.heap s'.heap ∧ s'.os = s₁.os ∧ AllBare s'.gens) s₁ := by
    intro H hO hS hok hA hK
    have base_of : ∀ {b : Addr} {o : Obj}, s₁.heap.get? b = some o → H b = none → (hidT s₁.heap H).get? b = some o := fun e n => hidT_get e n
    have noA : ∀ {b : Addr} {o : Obj} {es : Array DictEntry} {ep : Nat}, s₁.heap.get? b = some o → o.data = .dict es ep → H b = none := fun {b o es ep} e d => by
      cases q : H b with
      | none => rfl
      | some u =>
        have e' : b = a := hA b (by rw [q]; simp)
        subst e'
        rw [ha] at e; cases e
        have d' : Data.seq vs.toArray _ = Data.dict es ep := d
        cases d'
    have nsK : ∀ {b : Addr} {m : Str → Option Value}, s₁.heap.Ns b m → (hidT s₁.heap H).Ns b m := fun {b m} ⟨o, es, ep, e, d, r⟩ => ⟨o, es, ep, base_of e (noA e d), d, r⟩
    have hKb : K.In (hidT s₁.heap H) := fun b o e => base_of (KX b o e) (by
      cases q : H b with
      | none => rfl
      | some u =>
        have e' : b = a := hA b (by rw [q]; simp)
        subst e'
        rw [hK (by rw [q]; simp)] at e; cases e)
    have hM : Mod K mg (hidT s₁.heap H) := ⟨hKb, nsK hns, ⟨mb, nsK hb, hbb⟩, let ⟨mc, h1, h2⟩ := hlim; ⟨mc, nsK h1, h2⟩⟩
    have e0 : Env0 P w K mg (hidT s₁.heap H) callerA [] s₁ H := ⟨rfl, hM, fun b o e => of_hidT e, Nat.le_of_eq (hidT_size _ _), trivial, fun b hb => absurd (show b ∈ ([] : List Addr) from hb) (by simp), hok, .of_eq hg⟩
    refine codeAny_mono ((F _ hKb (nsK hns)).run callerA [] s₁ H ⟨[.ref a], []⟩ [.ref a] [.ref a] _ _ hr e0 (hbind s₁ (.ref a)) (.cons rfl .nil) (hsp H hO hS)) fun r s' h => ?_
    cases r with
    | error e => exact (hCX H e s' h).elim
    | ok fl =>
      cases fl with
      | next => exact False.elim h
      | brk => exact False.elim h
      | cont => exact False.elim h
      | ret u =>
        obtain ⟨v, H', os, bare, un, hok', r', q⟩ := h
        have q' : v = .bl true := q
        subst q'
        obtain rfl : u = Value.bool true := r'
        refine ⟨rfl, OldK.of_keep fun b o e => ?_, os, bare⟩
        cases q : H b with
        | none => exact un.keep b o e q (by intro z; exact absurd (show b ∈ ([] : List Addr) from z) (by simp)) (by simp)
        | some u =>
          rcases hO b with z | ⟨ob, xs, z⟩
          · rw [q] at z; cases z
          · have z2 := un.frzs b ob _ z
            obtain ⟨e1, _⟩ := hok b _ z
            obtain ⟨e2, _⟩ := hok' b _ z2
            rw [e] at e1; cases e1
            exact e2
  cases hk : K.lookup a with
  | some o =>
    -- the script is one of the module's own objects
    have e := KX a o hk
    rw [ha] at e
    cases e
    refine core (fun _ => none) (fun _ => .inl rfl) (.inr ⟨_, vs.toArray, _, hk, rfl, rfl, rfl, by rw [List.size_toArray, lenV]; exact hl, by simpa using rv⟩) (fun b u z => by have z' : (none : Option HO) = some u := z; cases z') (fun b z => absurd rfl z) fun z => absurd rfl z
  | none =>
    refine core (fun b => if b = a then some (.frz { cls := .type "list", data := .seq vs.toArray } (.lst (ns.map V.int))) else none) (fun b => ?_) (.inl (.inr ⟨{ cls := .type "list", data := .seq vs.toArray }, if_pos rfl⟩)) (fun b u z => ?_) (fun b z => ?_) fun _ => hk
    · by_cases hb : b = a
      · exact .inr ⟨_, _, if_pos hb⟩
      · exact .inl (if_neg hb)
    · by_cases hb : b = a
      · have z' := (if_pos hb).symm.trans z
        cases z'
        subst hb
        exact ⟨ha, by rw [List.length_map]; exact hl, vs, _, rv, ha⟩
      · have z' := (if_neg hb).symm.trans z
        cases z'
    · by_cases hb : b = a
      · exact hb
      · exact absurd (if_neg hb) z
end L2
namespace L2
open PySem PySem.Spec PyProof.Rows
noncomputable abbrev KOf {K : PySem.W.Frag} {h : Heap} (_ : K.In h) : PySem.W.Frag := K
theorem walk_of {l : PySem.W.OpenLaw} {n k : Nat} {q : Program} {loose : List Str} {XP : (Str → Option Value) → Heap → Prop} {YP : World → Heap → Prop} {d : DefRec} {K : Params → PySem.W.Frag} {CX : World → CXT} {sp : World → Sp} {x : Str}
    (hn : l.most = some n) (hn2 : n ≤ sizeLine) (hdf : d.params.defaults = []) (hr : Room k callerA)
    (hY : ∀ (w : World) (h : Heap), YP w h → (K w.params).In h)
    (F : ∀ (w : World) (mg : Str → Option Value) (fa : Addr) (h : Heap), (K w.params).In h → h.Ns mainGlobals mg → mg d.name = some (.ref fa) →
      ∃ fd : FuncData, (∀ (s : Shared) (u : Value), BindsTo s fd ⟨[u], []⟩ [(x, u)]) ∧
        ∀ base : Heap, (K w.params).In base → base.Ns mainGlobals mg → FnOk l.prog w (K w.params) mg base (CX w) k fa fd [x] (sp w))
    (hsp : ∀ (w : World) (H : Hp) (a : Addr) (ns : List Int), ns.length ≤ n → Only H → SqL (K w.params) H a (ns.map V.int) → sp w [.ref a] H (fun v _ => v = .bl true) fun _ _ _ => False)
    (hCX : ∀ (w : World) (H : Hp) (s : Shared) (e : Value) (s' : Shared), CX w [] H s (fun _ _ _ => False) e s' → False) :
    PySem.W.WalkO q loose XP YP l.row.toRowW d [] (fun f vs => PySem.call f vs) := by
  refine Att.attach_call hn hdf fun w s₀ s₁ mg mb fa o pm cd doc a vs ns G Y ho hd hcd hmg hobj hints hlen hg => ?_
  have KX := hY w _ Y
  obtain ⟨fd, hb, hF⟩ := F w mg fa _ KX G.T.g hmg
  exact law_call KX G.T.g G.T.b G.T.builtins G.T.nolimit hg hobj hints (Nat.le_trans hlen hn2) hr hF hb (fun H hO hS => hsp w H a ns hlen hO hS) fun H e s' => hCX w H s₁ e s'
end L2
namespace L2
open PySem PySem.Spec PyProof.Rows
noncomputable def defArgs (s : Stmt) : Arguments := match s with
  | .FunctionDef _ a _ _ _ _ _ _ _ _ => a
  | _ => { posonlyargs := [], args := [], vararg := none, kwonlyargs := [], kw_defaults := [], kwarg := none, defaults := [] }
noncomputable def defBody (s : Stmt) : List Stmt := match s with
  | .FunctionDef _ _ b _ _ _ _ _ _ _ => b
  | _ => []
noncomputable def defScope (s : Stmt) : Scope := match s with
  | .FunctionDef _ _ _ _ _ _ sc _ _ _ => sc
  | _ => { kind := .function, names := [], isGenerator := false, isCoroutine := false }
noncomputable abbrev CX0 : CXT := fun _ _ _ _ _ _ => False
noncomputable abbrev E0 : XK := fun _ _ _ => False
theorem pass0 {X : Cx} : Passes CX0 X E0 := fun _ _ _ _ _ _ _ h => h.elim
structure Fun (K : PySem.W.Frag) (x qual : Str) (st : Stmt) (f : Addr) (fd : FuncData) : Prop where
  ex : ∃ (oc : Value) (od : Option Addr) (kV doc pm : Value) (an : Option Addr) (cdv ct : Value) (osl : Array (Option Value)),
    fd = PySem.W.fnOf x qual (defArgs st) (defBody st) (defScope st) .none kV doc pm an cdv ct ∧ K.lookup f = some ⟨oc, od, .func fd, osl⟩ ∧ PySem.W.codeIn K cdv qual = true
  kp : PySem.W.keepIn K (.ref f) = true
section
variable {P : Program} {w : World} {K : PySem.W.Frag} {mg : Str → Option Value} {base : Heap}
theorem Fun.ok {x qual : Str} {st : Stmt} {f : Addr} {fd : FuncData} {N ps : List Str} {k : Nat} {sp : Sp} (F : Fun K x qual st f fd) (S : FnScope N ps (defScope st)) (len : ∀ vs H Q E, sp vs H Q E → vs.length = ps.length)
    (hbody : ∀ (cdv : Value) (A : Around) (outer : List Env) (s : Shared) (H : Hp) (vs : List V) (Q : VK) (E : XK), Room k (A.deeper (envOfC qual (defScope st) s.heap.objs.size f cdv)) → sp vs H Q E →
      ∃ t, PSs (cxOf CX0 P w K mg base N qual (defScope st) f cdv A outer s H E).nox (defBody st) t ∧ t { nx := fun _ H' => Q .non H', rt := Q } (start N vs) H) : FnOk P w K mg base CX0 (k + 1) f fd ps sp := by
  obtain ⟨oc, od, kV, doc, pm, an, cdv, ct, osl, rfl, lk, hcd⟩ := F.ex
  refine fn_of lk hcd S len fun A outer s H vs Q E hr hsp => ?_
  obtain ⟨t, h, q⟩ := hbody cdv A outer s H vs Q E hr hsp
  exact ⟨t, h.nox, q⟩
theorem Fun.binds {x qual : Str} {st : Stmt} {f : Addr} {fd : FuncData} {ps : List Str} (F : Fun K x qual st f fd)
    (h : ∀ (kV doc pm : Value) (an : Option Addr) (cdv ct : Value) (us : List Value), us.length = ps.length → bindArgs (PySem.W.fnOf x qual (defArgs st) (defBody st) (defScope st) .none kV doc pm an cdv ct) ⟨us, []⟩ = pure (ps.zip us)) : Binds K fd ps [] := by
  obtain ⟨oc, od, kV, doc, pm, an, cdv, ct, osl, rfl, lk, hcd⟩ := F.ex
  exact .all (h kV doc pm an cdv ct)
theorem fun_mk {x qual : Str} {st : Stmt} {f : Addr} {oc : Value} {od an : Option Addr} {osl : Array (Option Value)} {kV doc pm cdv ct : Value} (l : K.lookup f = some ⟨oc, od, .func (PySem.W.fnOf x qual (defArgs st) (defBody st) (defScope st) .none kV doc pm an cdv ct), osl⟩)
    (c : PySem.W.codeIn K cdv qual = true) (k : PySem.W.keepIn K (.ref f) = true) : Fun K x qual st f (PySem.W.fnOf x qual (defArgs st) (defBody st) (defScope st) .none kV doc pm an cdv ct) := ⟨⟨oc, od, kV, doc, pm, an, cdv, ct, osl, rfl, l, c⟩, k⟩
end
section
variable {X : Cx}
end
noncomputable def Same (H H' : Hp) : Prop := ∀ b o, H b = some o → H' b = some o
theorem Same.refl (H : Hp) : Same H H := fun _ _ h => h
theorem Same.trans {H H1 H2 : Hp} (a : Same H H1) (b : Same H1 H2) : Same H H2 := fun c o h => b c o (a c o h)
theorem Same.free {H H' : Hp} (e : Same H H') {l : Addr} (h : H' l = Option.none) : H l = Option.none := by
  cases q : H l with
  | none => rfl
  | some o =>
    rw [e l o q] at h
    cases h
end L2
namespace L2
open PySem PySem.Spec PyProof.Rows
section
variable {κ : Type} [DecidableEq κ]
noncomputable def valV (kvs : List (κ × V)) (k : κ) : Option V := (kvs.find? fun kv => decide (kv.1 = k)).map (·.2)
noncomputable def putK (kvs : List (κ × V)) (k : κ) (v : V) : List (κ × V) :=
  if (kvs.any fun kv => decide (kv.1 = k)) = true then kvs.map (fun kv => if kv.1 = k then (kv.1, v) else kv) else kvs ++ [(k, v)]
theorem valV_pos {p : κ × V} {r : List (κ × V)} {k : κ} (e : p.1 = k) : valV (p :: r) k = some p.2 := by simp [valV, List.find?_cons, e]
theorem valV_neg {p : κ × V} {r : List (κ × V)} {k : κ} (e : ¬ p.1 = k) : valV (p :: r) k = valV r k := by simp [valV, List.find?_cons, e]
theorem valV_any (k : κ) : ∀ kvs : List (κ × V), (kvs.any fun kv => decide (kv.1 = k)) = (valV kvs k).isSome
  | [] => rfl
  | p :: r => by
    rw [List.any_cons]
    by_cases e : p.1 = k
    · simp only [valV_pos e, decide_eq_true e, Bool.true_or, Option.isSome_some]
    · rw [valV_neg e, decide_eq_false e, Bool.false_or]; exact valV_any k r
theorem valV_map (k j : κ) (y : V) : ∀ kvs : List (κ × V), valV (kvs.map fun kv => if kv.1 = k then (kv.1, y) else kv) j = (valV kvs j).map fun x => if j = k then y else x
  | [] => rfl
  | p :: r => by
    have ih := valV_map k j y r
    rw [List.map_cons]
    by_cases h : p.1 = k
    · rw [if_pos h]
      by_cases e : p.1 = j
      · rw [valV_pos (p := (p.1, y)) e, valV_pos e, Option.map_some, if_pos (e.symm.trans h)]
      · rw [valV_neg (p := (p.1, y)) e, valV_neg e, ih]
    · rw [if_neg h]
      by_cases e : p.1 = j
      · rw [valV_pos (p := p) e, valV_pos e, Option.map_some, if_neg (fun z => h (e.trans z))]
      · rw [valV_neg (p := p) e, valV_neg e, ih]
theorem valV_snoc (k j : κ) (y : V) : ∀ kvs : List (κ × V), valV kvs k = none → valV (kvs ++ [(k, y)]) j = if j = k then some y else valV kvs j
  | [], _ => by
    by_cases e : k = j
    · rw [if_pos e.symm]; exact valV_pos (p := (k, y)) e
    · rw [if_neg (fun z => e z.symm)]; exact valV_neg (p := (k, y)) e
  | p :: r, hn => by
    rw [List.cons_append]
    have hk : ¬ p.1 = k := fun z => by rw [valV_pos z] at hn; cases hn
    rw [valV_neg hk] at hn
    have ih := valV_snoc k j y r hn
    by_cases e : p.1 = j
    · rw [valV_pos e, valV_pos e, if_neg (fun z => hk (e.trans z))]
    · rw [valV_neg e, valV_neg e, ih]
theorem valV_put (kvs : List (κ × V)) (k j : κ) (y : V) : valV (putK kvs k y) j = if j = k then some y else valV kvs j := by
  unfold putK
  by_cases a : (kvs.any fun kv => decide (kv.1 = k)) = true
  · rw [if_pos a, valV_map]
    rw [valV_any] at a
    by_cases e : j = k
    · obtain ⟨x, hx⟩ := Option.isSome_iff_exists.mp a
      rw [if_pos e, e, hx, Option.map_some, if_pos rfl]
    · rw [if_neg e]
      cases valV kvs j with
      | none => rfl
      | some x => rw [Option.map_some, if_neg e]
  · rw [if_neg a]
    refine valV_snoc k j y kvs ?_
    rw [valV_any] at a
    cases q : valV kvs k with
    | none => rfl
    | some x => rw [q] at a; exact (a rfl).elim
theorem length_putK (kvs : List (κ × V)) (k : κ) (v : V) : (putK kvs k v).length ≤ kvs.length + 1 := by
  unfold putK
  split
  · rw [List.length_map]; omega
  · rw [List.length_append, List.length_cons, List.length_nil]; omega
theorem putK_new {kvs : List (κ × V)} {k : κ} (v : V) (h : valV kvs k = none) : putK kvs k v = kvs ++ [(k, v)] := by
  unfold putK
  rw [valV_any, h]
  exact if_neg (by decide)
theorem RelO.isSome_eq {o : Option V} {u : Option Value} (r : RelO o u) : o.isSome = u.isSome := by
  cases o with
  | none => cases u with
    | none => rfl
    | some _ => exact (show False from r).elim
  | some _ => cases u with
    | none => exact (show False from r).elim
    | some _ => rfl
theorem KV.val {kvs : List (κ × V)} {vs : List (κ × Value)} (r : KV kvs vs) (k : κ) : RelO (valV kvs k) (valueAt vs k) := by
  unfold KV at r
  induction r with
  | nil => exact True.intro
  | @cons p q ps qs h t ih =>
    obtain ⟨h1, h2⟩ := h
    by_cases e : p.1 = k
    · have e' : q.1 = k := h1.symm.trans e
      have b : valueAt (q :: qs) k = some q.2 := by simp [valueAt, List.find?_cons, e']
      rw [valV_pos e, b]; exact h2
    · have e' : ¬ q.1 = k := fun z => e (h1.trans z)
      have b : valueAt (q :: qs) k = valueAt qs k := by simp [valueAt, List.find?_cons, e']
      rw [valV_neg e, b]; exact ih
theorem KV.any {kvs : List (κ × V)} {vs : List (κ × Value)} (r : KV kvs vs) (k : κ) : (kvs.any fun kv => decide (kv.1 = k)) = vs.any fun kv => decide (kv.1 = k) := by
  unfold KV at r
  induction r with
  | nil => rfl
  | cons h t ih => rw [List.any_cons, List.any_cons, ih, h.1]
theorem KV.repl {kvs : List (κ × V)} {vs : List (κ × Value)} (r : KV kvs vs) (k : κ) {y : V} {u : Value} (ry : RelV y u) :
    KV (kvs.map fun kv => if kv.1 = k then (kv.1, y) else kv) (vs.map fun kv => if kv.1 = k then (kv.1, u) else kv) := by
  unfold KV at r ⊢
  induction r with
  | nil => exact .nil
  | @cons p q ps qs h t ih =>
    rw [List.map_cons, List.map_cons]
    refine .cons ?_ ih
    obtain ⟨h1, h2⟩ := h
    by_cases e : p.1 = k
    · rw [if_pos e, if_pos (h1.symm.trans e)]; exact ⟨h1, ry⟩
    · rw [if_neg e, if_neg (fun z => e (h1.trans z))]; exact ⟨h1, h2⟩
theorem KV.put {kvs : List (κ × V)} {vs : List (κ × Value)} (r : KV kvs vs) (k : κ) {y : V} {u : Value} (ry : RelV y u) : KV (putK kvs k y) (stored vs k u) := by
  unfold putK stored
  rw [r.any k]
  by_cases e : (vs.any fun kv => decide (kv.1 = k)) = true
  · rw [if_pos e, if_pos e]; exact r.repl k ry
  · rw [if_neg e, if_neg e]; exact Paired.snoc r ⟨rfl, ry⟩
theorem KV.length {kvs : List (κ × V)} {vs : List (κ × Value)} (r : KV kvs vs) : kvs.length = vs.length := Paired.length r
end
theorem kV_is {P : Program} {w : World} {k : Key} {u : Value} (r : RelV (kV k) u) : (mixKind P w).is k u = true := by
  cases k with
  | inl i => obtain ⟨t, e⟩ := (show ∃ t, u = Value.int i t from r); subst e; exact mixKind_int P w i t
  | inr x => obtain ⟨t, e⟩ := (show ∃ t, u = Value.str x t from r); subst e; exact mixKind_str P w x t
theorem items_are {P : Program} {w : World} : ∀ {ks : List Key} {us : List Value}, Vals (ks.map kV) us → ItemsAre (mixKind P w) ks us
  | [], _, r => by rw [List.map_nil] at r; cases r; exact .nil
  | k :: ks, _, r => by
    rw [List.map_cons] at r
    cases r with
    | cons h t => exact .cons (kV_is h) (items_are t)
noncomputable abbrev KT (H : Hp) : List (List Key × V) → List (List Key × Addr × Value) → Prop := Paired fun p q => p.1 = q.1 ∧ H q.2.1 = some (.tup (p.1.map kV)) ∧ RelV p.2 q.2.2
theorem KT.val {H : Hp} {kvs : List (List Key × V)} {xs : List (List Key × Addr × Value)} (r : KT H kvs xs) (k : List Key) : RelO (valV kvs k) ((atKey xs k).map (·.2)) := by
  induction r with
  | nil => exact True.intro
  | @cons p q ps qs h t ih =>
    obtain ⟨h1, _, h2⟩ := h
    by_cases e : p.1 = k
    · have e' : q.1 = k := h1.symm.trans e
      have b : atKey (q :: qs) k = some q.2 := by simp [atKey, List.find?_cons, e']
      rw [valV_pos e, b]; exact h2
    · have e' : ¬ q.1 = k := fun z => e (h1.trans z)
      have b : atKey (q :: qs) k = atKey qs k := by simp [atKey, List.find?_cons, e']
      rw [valV_neg e, b]; exact ih
theorem KT.repl {H : Hp} {kvs : List (List Key × V)} {xs : List (List Key × Addr × Value)} (r : KT H kvs xs) (k : List Key) {y : V} {u : Value} (ry : RelV y u) :
    KT H (kvs.map fun kv => if kv.1 = k then (kv.1, y) else kv) (xs.map (putAt k u)) := by
  induction r with
  | nil => exact .nil
  | @cons p q ps qs h t ih =>
    rw [List.map_cons, List.map_cons]
    refine .cons ?_ ih
    obtain ⟨h1, h2, h3⟩ := h
    unfold putAt
    by_cases e : p.1 = k
    · rw [if_pos e, if_pos (h1.symm.trans e)]; exact ⟨h1, h2, ry⟩
    · rw [if_neg e, if_neg (fun z => e (h1.trans z))]; exact ⟨h1, h2, h3⟩
theorem KT.put {H : Hp} {kvs : List (List Key × V)} {xs : List (List Key × Addr × Value)} (r : KT H kvs xs) (k : List Key) {b : Addr} {y : V} {u : Value} (hb : H b = some (.tup (k.map kV))) (ry : RelV y u) :
    KT H (putK kvs k y) (storedH xs k b u) := by
  have e : (kvs.any fun kv => decide (kv.1 = k)) = (atKey xs k).isSome := by
    rw [valV_any, (r.val k).isSome_eq, Option.isSome_map]
  unfold putK storedH
  rw [e]
  by_cases q : (atKey xs k).isSome = true
  · rw [if_pos q, if_pos q]; exact r.repl k ry
  · rw [if_neg q, if_neg q]; exact Paired.snoc r ⟨rfl, hb, ry⟩
theorem KT.keeps {H H' : Hp} {kvs : List (List Key × V)} {xs : List (List Key × Addr × Value)} (r : KT H kvs xs) (ht : ∀ b ys, H b = some (.tup ys) → H' b = some (.tup ys)) : KT H' kvs xs :=
  Paired.mapP r fun _ _ z => ⟨z.1, ht _ _ z.2.1, z.2.2⟩
section
variable {P : Program} {w : World} {H : Hp} {h : Heap} {a : Addr}
theorem rd_of {u : HO} (ok : HOk P w H h) (e : Rd H a u) : ObjOk P w H h a u := e.ok ok
theorem dk_rd {kvs : List (Key × V)} (ok : HOk P w H h) (e : Rd H a (.dK kvs)) : kvs.length ≤ sizeLine ∧ (a == sysModules) = false ∧ ∃ vs, KV kvs vs ∧ h.DictOf (mixKind P w) a vs :=
  show ObjOk P w H h a (.dK kvs) from rd_of ok e
theorem dk_of {kvs : List (Key × V)} (ok : HOk P w H h) (e : H a = some (.dK kvs)) : kvs.length ≤ sizeLine ∧ (a == sysModules) = false ∧ ∃ vs, KV kvs vs ∧ h.DictOf (mixKind P w) a vs := dk_rd ok (.inl e)
theorem key_of {ks : List Key} (ok : HOk P w H h) (e : H a = some (.tup (ks.map kV))) : (tupleKind (mixKind P w)).is h ks a := by
  obtain ⟨_, its, r, o, h1, h2, n, h3⟩ := (show ObjOk P w H h a (.tup (ks.map kV)) from ok a _ e)
  exact ⟨o, its.toArray, n, h1, h2, h3, by simpa using items_are r⟩
theorem dt_rd {kvs : List (List Key × V)} (ok : HOk P w H h) (e : Rd H a (.dT kvs)) : kvs.length ≤ sizeLine ∧ (a == sysModules) = false ∧
    ∃ xs, KT H kvs xs ∧ h.DictOfH (tupleKind (mixKind P w)) a xs := by
  obtain ⟨z, y, xs, r, o, es, ep, h1, h2, h3, h4, h5⟩ := (show ObjOk P w H h a (.dT kvs) from rd_of ok e)
  refine ⟨z, y, xs, r, o, es, ep, h1, h2, h3, h4, fun x hx => ?_, h5⟩
  have all : ∀ {l : List (List Key × V)} {m : List (List Key × Addr × Value)}, KT H l m → ∀ x ∈ m, (tupleKind (mixKind P w)).is h x.1 x.2.1 := by
    intro l m q
    induction q with
    | nil => intro x hx; exact nomatch hx
    | @cons p q ps qs hq t ih =>
      intro x hx
      rcases List.mem_cons.mp hx with e | hx
      · subst e
        exact key_of ok (by rw [← hq.1]; exact hq.2.1)
      · exact ih x hx
  exact all r x hx
theorem dt_of {kvs : List (List Key × V)} (ok : HOk P w H h) (e : H a = some (.dT kvs)) : kvs.length ≤ sizeLine ∧ (a == sysModules) = false ∧
    ∃ xs, KT H kvs xs ∧ h.DictOfH (tupleKind (mixKind P w)) a xs := dt_rd ok (.inl e)
end
noncomputable def DGet (H : Hp) (a : Addr) (y : V) (r : Option V) : Prop :=
  (∃ kvs k, Rd H a (.dK kvs) ∧ y = kV k ∧ r = valV kvs k) ∨ ∃ kvs k b, Rd H a (.dT kvs) ∧ y = .ref b ∧ H b = some (.tup (k.map kV)) ∧ r = valV kvs k
noncomputable def DPut (H : Hp) (a : Addr) (y v : V) (H' : Hp) : Prop :=
  (∃ kvs k, H a = some (.dK kvs) ∧ y = kV k ∧ kvs.length < sizeLine ∧ H' = upd H a (.dK (putK kvs k v))) ∨
  ∃ kvs k b, H a = some (.dT kvs) ∧ y = .ref b ∧ H b = some (.tup (k.map kV)) ∧ kvs.length < sizeLine ∧ H' = upd H a (.dT (putK kvs k v))
theorem DGet.k {H : Hp} {a : Addr} {kvs : List (Key × V)} {k : Key} (e : H a = some (.dK kvs)) : DGet H a (kV k) (valV kvs k) := .inl ⟨kvs, k, .inl e, rfl, rfl⟩
theorem DGet.t {H : Hp} {a b : Addr} {kvs : List (List Key × V)} {k : List Key} (e : H a = some (.dT kvs)) (eb : H b = some (.tup (k.map kV))) : DGet H a (.ref b) (valV kvs k) := .inr ⟨kvs, k, b, .inl e, rfl, eb, rfl⟩
theorem DPut.k {H : Hp} {a : Addr} {kvs : List (Key × V)} {k : Key} {v : V} (e : H a = some (.dK kvs)) (hl : kvs.length < sizeLine) : DPut H a (kV k) v (upd H a (.dK (putK kvs k v))) := .inl ⟨kvs, k, e, rfl, hl, rfl⟩
theorem DPut.t {H : Hp} {a b : Addr} {kvs : List (List Key × V)} {k : List Key} {v : V} (e : H a = some (.dT kvs)) (eb : H b = some (.tup (k.map kV))) (hl : kvs.length < sizeLine) :
    DPut H a (.ref b) v (upd H a (.dT (putK kvs k v))) := .inr ⟨kvs, k, b, e, rfl, eb, hl, rfl⟩
section
variable {X : Cx} {pins : List (Addr × Obj)} {σ : St} {H : Hp} {s : Shared} {a : Addr} {y v : V} {u r : Value} {o : Option V} {A : Around} {E : Value → Shared → Prop}
theorem Inv.big (I : Inv X pins σ H s) : sysModules < s.heap.objs.size := by
  have h : mainGlobals < s.heap.objs.size := (I.mod.glob.keeps I.bk).lt
  exact Nat.lt_trans (by decide) h
theorem d_getItem {Q : Value → Shared → Prop} (hu : A.units + 1 < cLine) (I : Inv X pins σ H s) (g : DGet H a y (some v)) (ry : RelV y u) (h : ∀ w' s', Inv X pins σ H s' → RelV v w' → Q w' s') :
    wpAny (model X.prog X.w) A (getItem (.ref a) u) Q E s := by
  rcases g with ⟨kvs, k, e, ey, l⟩ | ⟨kvs, k, b, e, ey, eb, l⟩
  · subst ey
    obtain ⟨z, hd, vs, rel, dd⟩ := dk_rd I.hok e
    obtain ⟨w', hw, rw'⟩ := RelO.some_of (v := v) (o := valueAt vs k) (by rw [l]; exact rel.val k)
    exact wpAny_getItem_of (kV_is ry) dd.mapOf hw (h w' _ (I.tok _) rw')
  · subst ey
    cases (show u = Value.ref b from ry)
    obtain ⟨z, hd, xs, rel, dd⟩ := dt_rd I.hok e
    obtain ⟨w', hw, rw'⟩ := RelO.some_of (v := v) (o := (atKey xs k).map (·.2)) (by rw [l]; exact rel.val k)
    obtain ⟨p, hp, hp2⟩ := Option.map_eq_some_iff.mp hw
    refine wpAny_getItem_heap (tupleKind_room_in1 hu) (key_of I.hok eb) dd hp ?_
    rw [hp2]
    exact h w' _ (I.tok _) rw'
theorem d_notIn {Q : Value → Shared → Prop} (hu : A.units + 1 < cLine) (I : Inv X pins σ H s) (g : DGet H a y o) (ry : RelV y u) (h : ∀ s', Inv X pins σ H s' → Q (.bool (!o.isSome)) s') :
    wpAny (model X.prog X.w) A (compareOp .NotIn u (.ref a)) Q E s := by
  rcases g with ⟨kvs, k, e, ey, l⟩ | ⟨kvs, k, b, e, ey, eb, l⟩
  · subst ey
    obtain ⟨z, hd, vs, rel, dd⟩ := dk_rd I.hok e
    refine wpAny_notIn_of (kV_is ry) hd dd.mapOf ?_
    rw [← (rel.val k).isSome_eq, ← l]
    exact h _ (I.tok _)
  · subst ey
    cases (show u = Value.ref b from ry)
    obtain ⟨z, hd, xs, rel, dd⟩ := dt_rd I.hok e
    refine wpAny_notIn_heap (tupleKind_room_in1 hu) (key_of I.hok eb) hd dd ?_
    have q := (rel.val k).isSome_eq
    rw [Option.isSome_map] at q
    rw [← q, ← l]
    exact h _ (I.tok _)
theorem d_write {h' : Heap} {t' : Nat} {ob : HO} (I : Inv X pins σ H s) (mu : Mut (H a)) (hs : Heap.SameBut a s.heap h') (he : ∃ q, h'.get? a = some q) (new : ObjOk X.prog X.w (upd H a ob) h' a ob) :
    Inv X pins σ (upd H a ob) { s with heap := h', toks := t' } :=
  I.write (x := a) (e := a) mu (.inl rfl) (fun b q hb z => (hs.2 b hb).trans z) he new
theorem dk_new {P : Program} {w : World} {H' : Hp} {h' : Heap} {kvs : List (Key × V)} {vs : List (Key × Value)} (z : kvs.length ≤ sizeLine) (hd : (a == sysModules) = false) (rel : KV kvs vs) (dd : h'.DictOf (mixKind P w) a vs) :
    ObjOk P w H' h' a (.dK kvs) := ⟨z, hd, vs, rel, dd⟩
theorem d_setItem {H' : Hp} {Q : Unit → Shared → Prop} (hu : A.units + 1 < cLine) (I : Inv X pins σ H s) (g : DPut H a y v H') (ry : RelV y u) (rv : RelV v r) (h : ∀ s', Inv X pins σ H' s' → Q () s') :
    wpAny (model X.prog X.w) A (setItem (.ref a) u r) Q E s := by
  rcases g with ⟨kvs, k, e, ey, l, eH⟩ | ⟨kvs, k, b, e, ey, eb, l, eH⟩
  · subst ey eH
    obtain ⟨z, hd, vs, rel, dd⟩ := dk_of I.hok e
    have hz : vs.length ≤ sizeLine := by rw [← rel.length]; exact z
    have hl : (putK kvs k v).length ≤ sizeLine := by have := length_putK kvs k v; omega
    refine wpAny_setItem_pairs (hsz := hz) (kV_is ry) dd fun h' dd' hs => h _ ?_
    have he : ∃ q, h'.get? a = some q := let ⟨q, _, _, hq, _⟩ := dd'; ⟨q, hq⟩
    exact d_write I (by rw [e]; exact True.intro) hs he (dk_new hl hd (rel.put k rv) dd')
  · subst ey eH
    cases (show u = Value.ref b from ry)
    obtain ⟨z, hd, xs, rel, dd⟩ := dt_of I.hok e
    have hz : xs.length ≤ sizeLine := by rw [← Paired.length rel]; exact z
    have hl : (putK kvs k v).length ≤ sizeLine := by have := length_putK kvs k v; omega
    refine wpAny_setItem_heap (hsz := hz) (tupleKind_room_in1 hu) (key_of I.hok eb) dd fun h' dd' hs => h _ ?_
    obtain ⟨q, es, ep, hq, h2, h3, h4, _, h5⟩ := dd'
    refine d_write I (by rw [e]; exact True.intro) hs ⟨q, hq⟩ ⟨hl, hd, _, (rel.put k eb rv).keeps fun c ys ec => ?_, q, es, ep, hq, h2, h3, h4, h5⟩
    rw [upd_ne (ne_of ec e (fun z => nomatch z))]
    exact ec
end
section
variable {X : Cx} {pins : List (Addr × Obj)} {σ : St} {H : Hp} {s : Shared} {a : Addr} {kvs : List (Key × V)} {k : Key} {u : Value} {A : Around} {E : Value → Shared → Prop}
end
noncomputable def NoSl (i : Expr) : Prop := ∀ ov iv, subscripted i false ov iv = operate [ov, iv] (getItem ov iv)
theorem subD_of {prog : Program} {w : World} {A : Around} {E : Value → Shared → Prop} {s : Shared} {env : Env} {value slice : Expr} {pos : Pos} {T id : String} {Q : Value → Shared → Prop}
    (hl : typeLookup (.type T) "__getitem__" = pure (some (.builtin id))) (hs : NoSl slice)
    (h : wpAny (model prog w) A (eval value env) (fun o s₁ => wpAny (model prog w) A (eval slice env) (fun i s₂ => s₂.TypeIs o T ∧ wpAny (model prog w) A (getItem o i) Q E s₂) E s₁) E s) :
    wpAny (model prog w) A (eval (.Subscript value slice pos) env) Q E s := by
  refine Subscript_ (wpAny_mono h (fun o s₁ h₁ => wpAny_mono h₁ (fun i s₂ h₂ => ?_) fun _ _ x => x) fun _ _ x => x)
  obtain ⟨hT, h₂⟩ := h₂
  unfold subscriptTail
  refine wpAny_bind ?_
  rw [getitemInPython_of_ne hT.not_modules]
  refine wpAny_bind (wpAny_specialOf hT hl ?_)
  have fin : wpAny (model prog w) A (subscripted slice false o i) (fun r s₃ => wpAny (model prog w) A (letTemporaryGo value o r >>= fun _ => pure r) Q E s₃) E s₂ := by
    rw [hs o i]
    exact wpAny_operating (wpAny_mono h₂ (fun r s₃ h₃ => wpAny_bind (wpAny_letTemporaryGo (wpAny_pure h₃))) fun _ _ x => x)
  first
    | exact wpAny_pure (wpAny_bind fin)
    | exact wpAny_bind (wpAny_pure (wpAny_bind fin))
    | exact wpAny_bind fin
theorem dict_typeIs {X : Cx} {pins : List (Addr × Obj)} {σ : St} {H : Hp} {s : Shared} {a : Addr} {y : V} {o : Option V} (I : Inv X pins σ H s) (g : DGet H a y o) : s.TypeIs (.ref a) "dict" := by
  rcases g with ⟨kvs, k, e, _, _⟩ | ⟨kvs, k, b, e, _, _, _⟩
  · obtain ⟨_, _, vs, _, dd⟩ := dk_rd I.hok e
    exact dd.typeIs
  · obtain ⟨_, _, xs, _, dd⟩ := dt_rd I.hok e
    exact dd.typeIs
noncomputable def tDGet (td ty : TE) : TE := fun σ H Q => td σ H fun x H1 => ty σ H1 fun y H2 => ∃ a v, x = .ref a ∧ DGet H2 a y (some v) ∧ Q v H2
noncomputable def tDNotIn (ty td : TE) : TE := fun σ H Q => ty σ H fun y H1 => td σ H1 fun x H2 => ∃ a o, x = .ref a ∧ DGet H2 a y o ∧ Q (.bl (!o.isSome)) H2
noncomputable def sDPut (td ty tv : TE) : TS := fun D σ H => tv σ H fun v H1 => td σ H1 fun x H2 => ty σ H2 fun y H3 => ∃ a H4, x = .ref a ∧ DPut H3 a y v H4 ∧ D.nx σ H4
section
variable {X : Cx} {o i e value : Expr} {pos pos' tpos : Pos} {td ty tv : TE}
theorem pe_dget (hu : X.A.units + 1 < cLine) (ho : PE X o td) (hi : PE X i ty) (hs : NoSl i) : PE X (.Subscript o i pos) (tDGet td ty) := by
  intro pins s σ H Q I h
  refine subD_of PySem.F.slot_dict_getitem.lookup hs (thn (ho pins s σ H _ I h) fun u s1 ⟨x, H1, I1, rx, q1⟩ => thn (hi pins s1 σ H1 _ I1 q1) fun iv s2 ⟨y, H2, I2, ry, a, v, ex, g, q2⟩ => ?_)
  subst ex
  obtain rfl : u = Value.ref a := rx
  exact ⟨dict_typeIs I2 g, d_getItem hu I2 g ry fun w' s3 I3 rw' => ⟨v, H2, I3, rw', q2⟩⟩
theorem pc_dnotin (hu : X.A.units + 1 < cLine) (hi : PE X i ty) (ho : PE X o td) : PC X .NotIn i o (tDNotIn ty td) := by
  intro pins s σ H Q I h
  refine thn (hi pins s σ H _ I h) fun iv s1 ⟨y, H1, I1, ry, q1⟩ => thn (ho pins s1 σ H1 _ I1 q1) fun u s2 hq7 => ?_
  obtain ⟨x, H2, I2, rx, a, ov, ex, g, q2⟩ := hq7
  subst ex
  obtain rfl : u = Value.ref a := rx
  exact d_notIn hu I2 g ry fun s3 I3 => ⟨.bl (!ov.isSome), H2, I3, rfl, q2⟩
theorem ps_dput (hu : X.A.units + 1 < cLine) (ho : PE X o td) (hi : PE X i ty) (hv : PE X value tv) (hs : swapsWith value (some (.Subscript o i pos')) pos.line X.env = pure false) :
    PS X (.Assign [.Subscript o i pos'] value pos) (sDPut td ty tv) := by
  intro pins s σ H D I h
  refine wpAny_Assign_Subscript (thn (hv pins s σ H _ I h) fun r s1 ⟨v, H1, I1, rv, q1⟩ => thn (ho pins s1 σ H1 _ I1 q1) fun u s2 ⟨x, H2, I2, rx, q2⟩ => thn (hi pins s2 σ H2 _ I2 q2) fun iv s3 ⟨y, H3, I3, ry, a, H4, ex, g, q3⟩ => ?_) hs
  subst ex
  obtain rfl : u = Value.ref a := rx
  exact d_setItem hu I3 g ry rv fun s4 I4 => ⟨σ, H4, I4, q3⟩
end
theorem dk_empty {P : Program} {w : World} {H : Hp} (h : Heap) (hb : sysModules < h.objs.size) : ObjOk P w H (h.push { cls := .type "dict", data := .dict #[] }) h.objs.size (.dK []) :=
  ⟨Nat.zero_le _, beq_eq_false_iff_ne.mpr (Ne.symm (Nat.ne_of_lt hb)), [], .nil, Heap.DictOf.new h⟩
theorem dt_empty {P : Program} {w : World} {H : Hp} (h : Heap) (hb : sysModules < h.objs.size) : ObjOk P w H (h.push { cls := .type "dict", data := .dict #[] }) h.objs.size (.dT []) :=
  ⟨Nat.zero_le _, beq_eq_false_iff_ne.mpr (Ne.symm (Nat.ne_of_lt hb)), [], .nil, _, #[], 0, Heap.get?_push_size _ rfl, ⟨rfl, rfl, rfl⟩, rfl, rfl, List.nodup_nil⟩
noncomputable def tDNewK : TE := fun _ H Q => ∀ p, H p = none → Q (.ref p) (upd H p (.dK []))
noncomputable def tDNewT : TE := fun _ H Q => ∀ p, H p = none → Q (.ref p) (upd H p (.dT []))
section
variable {X : Cx} {pos : Pos}
theorem pe_dnewK : PE X (.Dict [] [] pos) tDNewK := fun pins s σ H Q I h =>
  wpAny_Dict_empty ⟨.ref s.heap.objs.size, _, I.laid (a := s.heap.objs.size) (o := .dK []) (t' := s.toks) (fun _ _ q => Heap.get?_push_of_some _ q) (Nat.le_refl _) (dk_empty s.heap I.big), rfl, h _ (I.hok.fresh (Nat.le_refl _))⟩
theorem pe_dnewT : PE X (.Dict [] [] pos) tDNewT := fun pins s σ H Q I h =>
  wpAny_Dict_empty ⟨.ref s.heap.objs.size, _, I.laid (a := s.heap.objs.size) (o := .dT []) (t' := s.toks) (fun _ _ q => Heap.get?_push_of_some _ q) (Nat.le_refl _) (dt_empty s.heap I.big), rfl, h _ (I.hok.fresh (Nat.le_refl _))⟩
end
section
variable {X : Cx} {pins : List (Addr × Obj)} {σ : St} {H : Hp} {s : Shared} {a : Addr} {y d : V} {u r : Value} {o : Option V} {A : Around} {E : Value → Shared → Prop}
end
section
variable {X : Cx} {o e f : Expr} {apos cpos : Pos} {td ty tx : TE}
end
section
variable {X : Cx} {pins : List (Addr × Obj)} {σ : St} {H : Hp} {s : Shared} {a : Addr} {kvs : List (Key × V)} {A : Around} {E : Value → Shared → Prop}
end
section
variable {X : Cx} {pins : List (Addr × Obj)} {σ : St} {H : Hp} {s : Shared} {a : Addr} {y : V} {u : Value} {A : Around} {E : Value → Shared → Prop}
end
end L2
namespace L2
open PySem PySem.Spec PyProof.Rows
section
variable {X : Cx}
end
section
variable {κ : Type} [DecidableEq κ]
end
end L2
end
section
set_option Elab.async false
set_option linter.all false
set_option maxRecDepth 100000
set_option maxHeartbeats 3999999
namespace L3
open PySem L2
noncomputable def Scr (K : PySem.W.Frag) (H : Hp) (a : Addr) (ns : List Int) : Prop := (∃ o, H a = some (.frz o (.lst (ns.map V.int)))) ∨ SqL K (fun _ => none) a (ns.map V.int)
mutual
noncomputable def Dn (K : PySem.W.Frag) (S : Addr → Prop) (H : Hp) : D → V → Prop
  | .non, v => v = .non
  | .bl b, v => v = .bl b
  | .int i, v => v = .int i
  | .str x, v => v = .str x
  | .tup ds, v => ∃ a xs, v = .ref a ∧ H a = some (.tup xs) ∧ Dns K S H ds xs
  | .lst ds, v => ∃ a xs, v = .ref a ∧ H a = some (.lst xs) ∧ S a ∧ Dns K S H ds xs
  | .scr ns, v => ∃ a, v = .ref a ∧ Scr K H a ns
  | .dic ks ds, v => ∃ a xs, v = .ref a ∧ H a = some (.dK (ks.zip xs)) ∧ S a ∧ ks.length = xs.length ∧ Dns K S H ds xs
  | .dicT q ks ds, v => ∃ a o kvs, v = .ref a ∧ H a = some (.dX o kvs) ∧ S a ∧ (kvs.map (·.1) = ks ∧ q a o) ∧ Dns K S H ds (kvs.map (·.2.2))
  | .exc _ a, v => v = .ref a
noncomputable def Dns (K : PySem.W.Frag) (S : Addr → Prop) (H : Hp) : List D → List V → Prop
  | [], xs => xs = []
  | d :: ds, xs => ∃ v r, xs = v :: r ∧ Dn K S H d v ∧ Dns K S H ds r
end
structure Fits (K : PySem.W.Frag) (S S' : Addr → Prop) (H H' : Hp) : Prop where
  t : ∀ a xs, H a = some (.tup xs) → H' a = some (.tup xs)
  s : ∀ a ns, Scr K H a ns → Scr K H' a ns
  l : ∀ a xs, H a = some (.lst xs) → S a → H' a = some (.lst xs) ∧ S' a
  d : ∀ a xs, H a = some (.dK xs) → S a → H' a = some (.dK xs) ∧ S' a
  e : ∀ a o xs, H a = some (.dX o xs) → S a → H' a = some (.dX o xs) ∧ S' a
section
variable {K : PySem.W.Frag} {S S' : Addr → Prop} {H H' : Hp}
mutual
theorem Dn.fits (f : Fits K S S' H H') : ∀ (d : D) (v : V), Dn K S H d v → Dn K S' H' d v
  | .non, v, h => by simpa only [Dn] using h
  | .bl b, v, h => by simpa only [Dn] using h
  | .int i, v, h => by simpa only [Dn] using h
  | .str x, v, h => by simpa only [Dn] using h
  | .tup ds, v, h => by
    simp only [Dn] at h ⊢
    obtain ⟨a, xs, e, q, r⟩ := h
    exact ⟨a, xs, e, f.t a xs q, Dns.fits f ds xs r⟩
  | .lst ds, v, h => by
    simp only [Dn] at h ⊢
    obtain ⟨a, xs, e, q, s, r⟩ := h
    obtain ⟨q', s'⟩ := f.l a xs q s
    exact ⟨a, xs, e, q', s', Dns.fits f ds xs r⟩
  | .scr ns, v, h => by
    simp only [Dn] at h ⊢
    obtain ⟨a, e, q⟩ := h
    exact ⟨a, e, f.s a ns q⟩
  | .dic ks ds, v, h => by
    simp only [Dn] at h ⊢
    obtain ⟨a, xs, e, q, s, l, r⟩ := h
    obtain ⟨q', s'⟩ := f.d a _ q s
    exact ⟨a, xs, e, q', s', l, Dns.fits f ds xs r⟩
  | .dicT _ ks ds, v, h => by
    simp only [Dn] at h ⊢
    obtain ⟨a, o, kvs, e, q, s, l, r⟩ := h
    obtain ⟨q', s'⟩ := f.e a _ _ q s
    exact ⟨a, o, kvs, e, q', s', l, Dns.fits f ds _ r⟩
  | .exc _ _, v, h => by simpa only [Dn] using h
theorem Dns.fits (f : Fits K S S' H H') : ∀ (ds : List D) (xs : List V), Dns K S H ds xs → Dns K S' H' ds xs
  | [], xs, h => by simpa only [Dns] using h
  | d :: ds, xs, h => by
    simp only [Dns] at h ⊢
    obtain ⟨v, r, e, h1, h2⟩ := h
    exact ⟨v, r, e, Dn.fits f d v h1, Dns.fits f ds r h2⟩
end
mutual
theorem Dn.immA : ∀ (d : D) (v : V), d.imm = true → Dn K S H d v → Dn K S' H d v
  | .non, v, _, h => by simpa only [Dn] using h
  | .bl b, v, _, h => by simpa only [Dn] using h
  | .int i, v, _, h => by simpa only [Dn] using h
  | .str x, v, _, h => by simpa only [Dn] using h
  | .tup ds, v, hi, h => by
    simp only [Dn] at h ⊢
    obtain ⟨a, xs, e, q, r⟩ := h
    exact ⟨a, xs, e, q, Dns.immA ds xs (by simpa only [D.imm] using hi) r⟩
  | .lst _, v, hi, h => by simp only [D.imm] at hi; cases hi
  | .scr ns, v, _, h => by simpa only [Dn] using h
  | .dic _ _, v, hi, h => by simp only [D.imm] at hi; cases hi
  | .dicT _ _ _, v, hi, h => by simp only [D.imm] at hi; cases hi
  | .exc _ _, v, _, h => by simpa only [Dn] using h
theorem Dns.immA : ∀ (ds : List D) (xs : List V), imms ds = true → Dns K S H ds xs → Dns K S' H ds xs
  | [], xs, _, h => by simpa only [Dns] using h
  | d :: ds, xs, hi, h => by
    simp only [imms, Bool.and_eq_true] at hi
    simp only [Dns] at h ⊢
    obtain ⟨v, r, e, h1, h2⟩ := h
    exact ⟨v, r, e, Dn.immA d v hi.1 h1, Dns.immA ds r hi.2 h2⟩
end
theorem Dn.imm {d : D} (hi : d.imm = true) {v : V} (h : Dn K S H d v) : Dn K S' H d v := Dn.immA d v hi h
theorem Dns.imm {ds : List D} (hi : imms ds = true) {xs : List V} (h : Dns K S H ds xs) : Dns K S' H ds xs := Dns.immA ds xs hi h
theorem SqL.some {a : Addr} {xs : List V} (h : SqL K (fun _ => none) a xs) : SqL K H a xs := by
  rcases h with (h | ⟨o, h⟩) | h
  · cases h
  · cases h
  · exact .inr h
theorem Scr.sq {a : Addr} {ns : List Int} (h : Scr K H a ns) : SqL K H a (ns.map V.int) := by
  rcases h with ⟨o, h⟩ | h
  · exact .inl (.inr ⟨o, h⟩)
  · exact SqL.some h
noncomputable def Wr (H : Hp) (p : Addr) : Prop := (∃ xs, H p = some (.lst xs)) ∨ (∃ xs, H p = some (.dK xs)) ∨ ∃ o xs, H p = some (.dX o xs)
theorem Wr.tup {p a : Addr} {o : HO} {xs : List V} (w : Wr H p) (h : H a = some (.tup xs)) : upd H p o a = some (.tup xs) := by
  rw [upd_ne]
  · exact h
  · intro e
    subst e
    rcases w with ⟨ys, w⟩ | ⟨ys, w⟩ | ⟨_, ys, w⟩ <;> rw [h] at w <;> cases w
theorem Wr.scr {p a : Addr} {o : HO} {ns : List Int} (w : Wr H p) (h : Scr K H a ns) : Scr K (upd H p o) a ns := by
  rcases h with ⟨ob, h⟩ | h
  · refine .inl ⟨ob, ?_⟩
    rw [upd_ne]
    · exact h
    · intro e
      subst e
      rcases w with ⟨ys, w⟩ | ⟨ys, w⟩ | ⟨_, ys, w⟩ <;> rw [h] at w <;> cases w
  · exact .inr h
theorem Fits.same (e : Same H H') : Fits K S S H H' :=
  ⟨fun a xs h => e _ _ h, fun a ns h => h.elim (fun ⟨o, h⟩ => .inl ⟨o, e _ _ h⟩) .inr, fun a xs h s => ⟨e _ _ h, s⟩, fun a xs h s => ⟨e _ _ h, s⟩, fun a _ xs h s => ⟨e _ _ h, s⟩⟩
theorem Fits.mono (m : ∀ a, S a → S' a) : Fits K S S' H H :=
  ⟨fun _ _ h => h, fun _ _ h => h, fun a _ h s => ⟨h, m a s⟩, fun a _ h s => ⟨h, m a s⟩, fun a _ _ h s => ⟨h, m a s⟩⟩
theorem Fits.fresh {p : Addr} (hp : H p = none) : Fits K S (fun a => S a ∧ a ≠ p) H H :=
  ⟨fun _ _ h => h, fun _ _ h => h, fun a _ h s => ⟨h, s, ne_of_none h hp⟩, fun a _ h s => ⟨h, s, ne_of_none h hp⟩, fun a _ _ h s => ⟨h, s, ne_of_none h hp⟩⟩
theorem Fits.upd {p : Addr} {o : HO} (w : Wr H p) (hs : ¬ S p) : Fits K S S H (upd H p o) := by
  have ne : ∀ a, S a → a ≠ p := fun a s e => hs (e ▸ s)
  exact ⟨fun a xs h => w.tup h, fun a ns h => w.scr h, fun a xs h s => ⟨by rw [upd_ne (ne a s)]; exact h, s⟩, fun a xs h s => ⟨by rw [upd_ne (ne a s)]; exact h, s⟩, fun a _ xs h s => ⟨by rw [upd_ne (ne a s)]; exact h, s⟩⟩
theorem Fits.trans {S'' : Addr → Prop} {H'' : Hp} (a : Fits K S S' H H') (b : Fits K S' S'' H' H'') : Fits K S S'' H H'' :=
  ⟨fun x xs h => b.t x xs (a.t x xs h), fun x ns h => b.s x ns (a.s x ns h), fun x xs h s => let ⟨h1, s1⟩ := a.l x xs h s; b.l x xs h1 s1, fun x xs h s => let ⟨h1, s1⟩ := a.d x xs h s; b.d x xs h1 s1, fun x o xs h s => let ⟨h1, s1⟩ := a.e x o xs h s; b.e x o xs h1 s1⟩
theorem same_upd {p : Addr} {o : HO} (hp : H p = none) : Same H (upd H p o) := fun b u h => by rw [upd_ne (ne_of_none h hp)]; exact h
theorem Dns.len : ∀ {ds : List D} {xs : List V}, Dns K S H ds xs → ds.length = xs.length
  | [], xs, h => by simp only [Dns] at h; subst h; rfl
  | d :: ds, xs, h => by
    simp only [Dns] at h
    obtain ⟨v, r, e, _, h2⟩ := h
    subst e
    simp [Dns.len h2]
theorem Dns.get : ∀ {ds : List D} {xs : List V} {i : Nat} {d : D}, Dns K S H ds xs → ds[i]? = some d → ∃ v, xs[i]? = some v ∧ Dn K S H d v
  | [], xs, i, d, h, e => by simp at e
  | d :: ds, xs, i, d', h, e => by
    simp only [Dns] at h
    obtain ⟨v, r, e1, h1, h2⟩ := h
    subst e1
    cases i with
    | zero => simp at e; subst e; exact ⟨v, by simp, h1⟩
    | succ i =>
      obtain ⟨u, e2, q⟩ := Dns.get (i := i) (d := d') h2 (by simpa using e)
      exact ⟨u, by simpa using e2, q⟩
theorem Dns.nil : Dns K S H [] [] := by simp only [Dns]
theorem Dns.cons {d : D} {ds : List D} {v : V} {xs : List V} (h : Dn K S H d v) (t : Dns K S H ds xs) : Dns K S H (d :: ds) (v :: xs) := by
  simp only [Dns]; exact ⟨v, xs, rfl, h, t⟩
theorem Dns.uncons {d : D} {ds : List D} {xs : List V} (h : Dns K S H (d :: ds) xs) : ∃ v r, xs = v :: r ∧ Dn K S H d v ∧ Dns K S H ds r := by
  simpa only [Dns] using h
theorem Dns.append : ∀ {ds es : List D} {xs ys : List V}, Dns K S H ds xs → Dns K S H es ys → Dns K S H (ds ++ es) (xs ++ ys)
  | [], es, xs, ys, h, g => by simp only [Dns] at h; subst h; exact g
  | d :: ds, es, xs, ys, h, g => by
    obtain ⟨v, r, e, h1, h2⟩ := h.uncons
    subst e
    exact Dns.cons h1 (Dns.append h2 g)
theorem Dns.one {d : D} {v : V} (h : Dn K S H d v) : Dns K S H [d] [v] := Dns.cons h Dns.nil
theorem Dns.take : ∀ {ds : List D} {xs : List V} (n : Nat), Dns K S H ds xs → Dns K S H (ds.take n) (xs.take n)
  | _, _, 0, _ => by simp [Dns.nil]
  | [], xs, n + 1, h => by simp only [Dns] at h; subst h; simp [Dns.nil]
  | d :: ds, xs, n + 1, h => by
    obtain ⟨v, r, e, h1, h2⟩ := h.uncons
    subst e
    simpa using Dns.cons h1 (Dns.take n h2)
theorem Dns.set : ∀ {ds : List D} {xs : List V} {d : D} {v : V} (n : Nat), Dn K S H d v → Dns K S H ds xs → Dns K S H (ds.set n d) (xs.set n v)
  | [], xs, d, v, n, h, g => by simp only [Dns] at g; subst g; simp [Dns.nil]
  | d :: ds, xs, d', v', n, h, g => by
    obtain ⟨v, r, e, h1, h2⟩ := g.uncons
    subst e
    cases n with
    | zero => exact Dns.cons h h2
    | succ n => exact Dns.cons h1 (Dns.set n h h2)
theorem Dns.erase : ∀ {ds : List D} {xs : List V} (n : Nat), Dns K S H ds xs → Dns K S H (ds.eraseIdx n) (xs.eraseIdx n)
  | [], xs, n, g => by simp only [Dns] at g; subst g; simp [Dns.nil]
  | d :: ds, xs, n, g => by
    obtain ⟨v, r, e, h1, h2⟩ := g.uncons
    subst e
    cases n with
    | zero => exact h2
    | succ n => exact Dns.cons h1 (Dns.erase n h2)
theorem Dns.ints : ∀ {ns : List Int} {xs : List V}, Dns K S H (ns.map D.int) xs ↔ xs = ns.map V.int
  | [], xs => by simp [Dns]
  | n :: ns, xs => by
    rw [List.map_cons, List.map_cons]
    constructor
    · intro h
      obtain ⟨v, r, e, h1, h2⟩ := h.uncons
      simp only [Dn] at h1
      rw [e, h1, Dns.ints.mp h2]
    · intro e
      rw [e]
      exact Dns.cons (by simp only [Dn]) (Dns.ints.mpr rfl)
theorem imms_ints : ∀ ns : List Int, imms (ns.map D.int) = true
  | [] => rfl
  | n :: ns => by rw [List.map_cons, imms, imms_ints ns]; rfl
end
end L3
end
section
set_option Elab.async false
set_option linter.all false
set_option maxRecDepth 100000
set_option maxHeartbeats 3999999
namespace L3
open PySem L2
noncomputable def Sl (K : PySem.W.Frag) (S : Addr → Prop) (H : Hp) (ρ : DEnv) (σ : St) : Prop := ∀ (i : Nat) (d : D), ρ[i]? = some (some d) → ∃ v, σ[i]? = some (some v) ∧ Dn K S H d v
theorem Sl.fits {K : PySem.W.Frag} {S S' : Addr → Prop} {H H' : Hp} {ρ : DEnv} {σ : St} (f : Fits K S S' H H') (h : Sl K S H ρ σ) : Sl K S' H' ρ σ := fun i d e =>
  let ⟨v, e1, q⟩ := h i d e; ⟨v, e1, Dn.fits f d v q⟩
noncomputable def OwnD (K : PySem.W.Frag) (S : Addr → Prop) (H : Hp) (d : D) (p : Addr) : Prop :=
  match d with
  | .lst ds => ∃ xs, H p = some (.lst xs) ∧ Dns K S H ds xs
  | .dic ks ds => ∃ xs, H p = some (.dK (ks.zip xs)) ∧ ks.length = xs.length ∧ Dns K S H ds xs
  | .dicT q ks ds => ∃ o kvs, H p = some (.dX o kvs) ∧ (kvs.map (·.1) = ks ∧ q p o) ∧ Dns K S H ds (kvs.map (·.2.2))
  | _ => False
noncomputable def SO (S : Addr → Prop) (w : Nat → Addr) (ρ : SEnv) : Addr → Prop := fun a => S a ∧ ∀ (i : Nat) (d : D), ρ[i]? = some (Sv.ow d) → a ≠ w i
structure ST (K : PySem.W.Frag) (H₀ : Hp) (S : Addr → Prop) (w : Nat → Addr) (σ : St) (H : Hp) (ρ : SEnv) (G : List (D × V)) : Prop where
  fc : ∀ a, H₀ a = none → S a
  sm : Same H₀ H
  own : ∀ (i : Nat) (d : D), ρ[i]? = some (Sv.ow d) → σ[i]? = some (some (.ref (w i))) ∧ H₀ (w i) = none ∧ OwnD K (SO S w ρ) H d (w i)
  inj : ∀ (i j : Nat) (d e : D), ρ[i]? = some (Sv.ow d) → ρ[j]? = some (Sv.ow e) → w i = w j → i = j
  ro : ∀ (i : Nat) (d : D), ρ[i]? = some (Sv.ro d) → ∃ v, σ[i]? = some (some v) ∧ Dn K (SO S w ρ) H d v
  gh : ∀ g ∈ G, Dn K (SO S w ρ) H g.1 g.2
section
variable {K : PySem.W.Frag} {H₀ H H' : Hp} {S S' : Addr → Prop} {w : Nat → Addr} {σ : St} {ρ : SEnv} {G : List (D × V)}
theorem OwnD.wr {d : D} {p : Addr} (h : OwnD K S H d p) : Wr H p := by
  cases d with
  | lst ds => obtain ⟨xs, e, _⟩ := h; exact .inl ⟨_, e⟩
  | dic ks ds => obtain ⟨xs, e, _⟩ := h; exact .inr (.inl ⟨_, e⟩)
  | dicT q0 ks ds => obtain ⟨o, kvs, e, _⟩ := h; exact .inr (.inr ⟨_, _, e⟩)
  | _ => exact False.elim h
theorem OwnD.dn {d : D} {p : Addr} (h : OwnD K S H d p) (hs : S' p) (m : ∀ a, S a → S' a) : Dn K S' H d (.ref p) := by
  cases d with
  | lst ds => obtain ⟨xs, e, q⟩ := h; simp only [Dn]; exact ⟨p, xs, rfl, e, hs, Dns.fits (.mono m) ds xs q⟩
  | dic ks ds => obtain ⟨xs, e, l, q⟩ := h; simp only [Dn]; exact ⟨p, xs, rfl, e, hs, l, Dns.fits (.mono m) ds xs q⟩
  | dicT q0 ks ds => obtain ⟨o, kvs, e, l, q⟩ := h; simp only [Dn]; exact ⟨p, o, kvs, rfl, e, hs, l, Dns.fits (.mono m) ds _ q⟩
  | _ => exact False.elim h
theorem OwnD.fits {d : D} {p : Addr} (f : Fits K S S' H H') (hp : ∀ o, H p = some o → H' p = some o) (h : OwnD K S H d p) : OwnD K S' H' d p := by
  cases d with
  | lst ds => obtain ⟨xs, e, q⟩ := h; exact ⟨xs, hp _ e, Dns.fits f ds xs q⟩
  | dic ks ds => obtain ⟨xs, e, l, q⟩ := h; exact ⟨xs, hp _ e, l, Dns.fits f ds xs q⟩
  | dicT q0 ks ds => obtain ⟨o, kvs, e, l, q⟩ := h; exact ⟨o, kvs, hp _ e, l, Dns.fits f ds _ q⟩
  | _ => exact False.elim h
theorem ST.fcH (h : ST K H₀ S w σ H ρ G) : ∀ a, H a = none → S a := fun a e => h.fc a (h.sm.free e)
theorem ST.fcO (h : ST K H₀ S w σ H ρ G) : ∀ a, H a = none → SO S w ρ a := fun a e => ⟨h.fcH a e, fun i d q z => by
  have wr := (h.own i d q).2.2.wr
  subst z
  rcases wr with ⟨xs, k⟩ | ⟨xs, k⟩ | ⟨_, xs, k⟩ <;> rw [e] at k <;> cases k⟩
theorem getElem?_vAll {i : Nat} {d : D} (h : (vAll ρ)[i]? = some (some d)) : ρ[i]? = some (Sv.ro d) ∨ ρ[i]? = some (Sv.ow d) := by
  unfold vAll at h
  rw [List.getElem?_map] at h
  cases e : ρ[i]? with
  | none => rw [e] at h; cases h
  | some s =>
    rw [e] at h
    cases s with
    | no => cases h
    | ro d' => cases h; exact .inl rfl
    | ow d' => cases h; exact .inr rfl
theorem getElem?_vRd {i : Nat} {d : D} (h : (vRd ρ)[i]? = some (some d)) : ρ[i]? = some (Sv.ro d) := by
  unfold vRd at h
  rw [List.getElem?_map] at h
  cases e : ρ[i]? with
  | none => rw [e] at h; cases h
  | some s =>
    rw [e] at h
    cases s with
    | no => cases h
    | ro d' => cases h; rfl
    | ow d' => cases h
theorem ST.all (h : ST K H₀ S w σ H ρ G) : Sl K S H (vAll ρ) σ := fun i d e => by
  rcases getElem?_vAll e with e | e
  · obtain ⟨v, e1, q⟩ := h.ro i d e
    exact ⟨v, e1, Dn.fits (.mono fun _ z => z.1) d v q⟩
  · obtain ⟨e1, e2, q⟩ := h.own i d e
    exact ⟨_, e1, q.dn (h.fc _ e2) fun _ z => z.1⟩
theorem ST.rd (h : ST K H₀ S w σ H ρ G) : Sl K (SO S w ρ) H (vRd ρ) σ := fun i d e => h.ro i d (getElem?_vRd e)
theorem ST.same (h : ST K H₀ S w σ H ρ G) (e : Same H H') : ST K H₀ S w σ H' ρ G :=
  ⟨h.fc, h.sm.trans e, fun i d q => let ⟨a, b, c⟩ := h.own i d q; ⟨a, b, c.fits (.same e) fun o z => e _ o z⟩, h.inj, fun i d q => let ⟨v, a, b⟩ := h.ro i d q; ⟨v, a, Dn.fits (.same e) d v b⟩, fun g hg => Dn.fits (.same e) _ _ (h.gh g hg)⟩
theorem SO.mono {ρ' : SEnv} (hw : ∀ (i : Nat) (d : D), ρ'[i]? = some (Sv.ow d) → ∃ e, ρ[i]? = some (Sv.ow e)) : ∀ a, SO S w ρ a → SO S w ρ' a := fun a hq8 => by obtain ⟨s, n⟩ := hq8; exact ⟨s, fun i d e => let ⟨d', e'⟩ := hw i d e; n i d' e'⟩
theorem get_set {α : Type} {l : List α} {i j : Nat} {x y : α} (h : (l.set i x)[j]? = some y) : (j = i ∧ y = x ∧ i < l.length) ∨ (j ≠ i ∧ l[j]? = some y) := by
  by_cases e : j = i
  · subst e
    by_cases hl : j < l.length
    · rw [List.getElem?_set_self hl] at h
      exact .inl ⟨rfl, (Option.some.inj h).symm, hl⟩
    · rw [List.getElem?_eq_none (by simp; omega)] at h
      cases h
  · rw [List.getElem?_set_ne (Ne.symm e)] at h
    exact .inr ⟨e, h⟩
theorem ST.set_ro {i : Nat} {d : D} {v : V} (h : ST K H₀ S w σ H ρ G) (hi : i < σ.length) (q : Dn K (SO S w ρ) H d v) : ST K H₀ S w (σ.set i (some v)) H (ρ.set i (.ro d)) G := by
  have hw : ∀ (j : Nat) (e : D), (ρ.set i (.ro d))[j]? = some (Sv.ow e) → j ≠ i ∧ ρ[j]? = some (Sv.ow e) := fun j e he => by
    rcases get_set he with ⟨_, z, _⟩ | z
    · cases z
    · exact z
  have m : ∀ a, SO S w ρ a → SO S w (ρ.set i (.ro d)) a := SO.mono fun j e he => ⟨e, (hw j e he).2⟩
  refine ⟨h.fc, h.sm, fun j e he => ?_, fun j k d' e' h1 h2 => h.inj j k d' e' (hw j d' h1).2 (hw k e' h2).2, fun j e he => ?_, fun g hg => Dn.fits (.mono m) _ _ (h.gh g hg)⟩
  · obtain ⟨hj, he'⟩ := hw j e he
    obtain ⟨a, b, c⟩ := h.own j e he'
    exact ⟨by rw [List.getElem?_set_ne (Ne.symm hj)]; exact a, b, c.fits (.mono m) fun _ z => z⟩
  · rcases get_set he with ⟨hj, z, _⟩ | ⟨hj, z⟩
    · cases z
      subst hj
      exact ⟨v, List.getElem?_set_self hi, Dn.fits (.mono m) d v q⟩
    · obtain ⟨u, a, b⟩ := h.ro j e z
      exact ⟨u, by rw [List.getElem?_set_ne (Ne.symm hj)]; exact a, Dn.fits (.mono m) e u b⟩
noncomputable def freeze (ρ : SEnv) (i : Nat) : SEnv := match ρ[i]? with
  | some (.ow d) => ρ.set i (.ro d)
  | _ => ρ
theorem ST.frozen {i : Nat} (h : ST K H₀ S w σ H ρ G) : ST K H₀ S w σ H (freeze ρ i) G := by
  unfold freeze
  cases e : ρ[i]? with
  | none => exact h
  | some s =>
    cases s with
    | no => exact h
    | ro d => exact h
    | ow d =>
      dsimp only
      obtain ⟨a, b, c⟩ := h.own i d e
      have hi : i < σ.length := (List.getElem?_eq_some_iff.mp a).1
      have hw : ∀ (j : Nat) (e : D), (ρ.set i (.ro d))[j]? = some (Sv.ow e) → j ≠ i ∧ ρ[j]? = some (Sv.ow e) := fun j e he => by
        rcases get_set he with ⟨_, z, _⟩ | z
        · cases z
        · exact z
      have m : ∀ a, SO S w ρ a → SO S w (ρ.set i (.ro d)) a := SO.mono fun j e he => ⟨e, (hw j e he).2⟩
      refine ⟨h.fc, h.sm, fun j f hf => ?_, fun j k d' e' h1 h2 => h.inj j k d' e' (hw j d' h1).2 (hw k e' h2).2, fun j f hf => ?_, fun g hg => Dn.fits (.mono m) _ _ (h.gh g hg)⟩
      · obtain ⟨a, b, c⟩ := h.own j f (hw j f hf).2
        exact ⟨a, b, c.fits (.mono m) fun _ z => z⟩
      · rcases get_set hf with ⟨hj, z, _⟩ | ⟨hj, z⟩
        · cases z
          subst hj
          refine ⟨_, a, c.dn ⟨h.fc _ b, fun k f' hk z => ?_⟩ m⟩
          obtain ⟨hk1, hk2⟩ := hw k f' hk
          exact hk1 (h.inj _ _ _ _ e hk2 z).symm
        · obtain ⟨u, a, b⟩ := h.ro j f z
          exact ⟨u, a, Dn.fits (.mono m) f u b⟩
theorem ST.set_ow {i : Nat} {d : D} {p : Addr} (h : ST K H₀ S w σ H ρ G) (hi : i < σ.length) (e : Same H H') (hp : H p = none) (q : OwnD K (fun a => SO S w ρ a ∧ a ≠ p) H' d p) :
    ST K H₀ S (fun j => if j = i then p else w j) (σ.set i (some (.ref p))) H' (ρ.set i (.ow d)) G := by
  have h0 : H₀ p = none := h.sm.free hp
  have hw : ∀ (j : Nat) (e : D), j ≠ i → (ρ.set i (.ow d))[j]? = some (Sv.ow e) → ρ[j]? = some (Sv.ow e) := fun j e hj he => by
    rcases get_set he with ⟨z, _, _⟩ | ⟨_, z⟩
    · exact absurd z hj
    · exact z
  have m : ∀ a, (SO S w ρ a ∧ a ≠ p) → SO S (fun j => if j = i then p else w j) (ρ.set i (.ow d)) a := fun a ⟨⟨s, n⟩, ne⟩ => ⟨s, fun j f hf => by
    show a ≠ (if j = i then p else w j)
    by_cases hj : j = i
    · rw [if_pos hj]; exact ne
    · rw [if_neg hj]; exact n j f (hw j f hj hf)⟩
  have F : Fits K (SO S w ρ) (SO S (fun j => if j = i then p else w j) (ρ.set i (.ow d))) H H' := ((Fits.fresh hp).trans (.mono m)).trans (.same e)
  have wp : ∀ (j : Nat) (f : D), ρ[j]? = some (Sv.ow f) → w j ≠ p := fun j f hf z => by
    have wr := (h.own j f hf).2.2.wr
    rw [z] at wr
    rcases wr with ⟨xs, k⟩ | ⟨xs, k⟩ | ⟨_, xs, k⟩ <;> rw [hp] at k <;> cases k
  refine ⟨h.fc, h.sm.trans e, fun j f hf => ?_, fun j k d' e' h1 h2 z => ?_, fun j f hf => ?_, fun g hg => Dn.fits F _ _ (h.gh g hg)⟩
  · by_cases hj : j = i
    · subst hj
      rcases get_set hf with ⟨_, z, _⟩ | ⟨z, _⟩
      · cases z
        rw [if_pos rfl]
        exact ⟨List.getElem?_set_self hi, h0, q.fits (.mono m) fun _ z => z⟩
      · exact absurd rfl z
    · rw [if_neg hj]
      obtain ⟨a, b, c⟩ := h.own j f (hw j f hj hf)
      exact ⟨by rw [List.getElem?_set_ne (Ne.symm hj)]; exact a, b, c.fits F fun o z => e _ o z⟩
  · have z : (if j = i then p else w j) = (if k = i then p else w k) := z
    by_cases hj : j = i
    · by_cases hk : k = i
      · rw [hj, hk]
      · rw [if_pos hj, if_neg hk] at z
        exact absurd z.symm (wp k e' (hw k e' hk h2))
    · by_cases hk : k = i
      · rw [if_neg hj, if_pos hk] at z
        exact absurd z (wp j d' (hw j d' hj h1))
      · rw [if_neg hj, if_neg hk] at z
        exact h.inj j k d' e' (hw j d' hj h1) (hw k e' hk h2) z
  · rcases get_set hf with ⟨_, z, _⟩ | ⟨hj, z⟩
    · cases z
    · obtain ⟨u, a, b⟩ := h.ro j f z
      exact ⟨u, by rw [List.getElem?_set_ne (Ne.symm hj)]; exact a, Dn.fits F f u b⟩
theorem ST.write {i : Nat} {d d' : D} {o : HO} (h : ST K H₀ S w σ H ρ G) (e : ρ[i]? = some (Sv.ow d)) (q : OwnD K (SO S w ρ) (upd H (w i) o) d' (w i)) : ST K H₀ S w σ (upd H (w i) o) (ρ.set i (.ow d')) G := by
  obtain ⟨a0, b0, c0⟩ := h.own i d e
  have so : SO S w (ρ.set i (.ow d')) = SO S w ρ := by
    funext a
    refine propext ⟨fun ⟨s, n⟩ => ⟨s, fun j f hf => ?_⟩, fun ⟨s, n⟩ => ⟨s, fun j f hf => ?_⟩⟩
    · by_cases hj : j = i
      · subst hj
        exact n j d' (by rw [List.getElem?_set_self (List.getElem?_eq_some_iff.mp e).1])
      · exact n j f (by rw [List.getElem?_set_ne (Ne.symm hj)]; exact hf)
    · by_cases hj : j = i
      · subst hj; exact n j d e
      · exact n j f (by rw [List.getElem?_set_ne (Ne.symm hj)] at hf; exact hf)
  have nS : ¬ SO S w ρ (w i) := fun ⟨_, n⟩ => n i d e rfl
  have F : Fits K (SO S w ρ) (SO S w ρ) H (upd H (w i) o) := .upd c0.wr nS
  refine ⟨h.fc, fun b u hb => ?_, fun j f hf => ?_, fun j k d1 e1 h1 h2 z => ?_, fun j f hf => ?_, fun g hg => by rw [so]; exact Dn.fits F _ _ (h.gh g hg)⟩
  · rw [upd_ne (ne_of_none hb b0)]
    exact h.sm b u hb
  · rw [so]
    rcases get_set hf with ⟨hj, z, _⟩ | ⟨hj, z⟩
    · cases z
      subst hj
      exact ⟨a0, b0, q⟩
    · obtain ⟨a, b, c⟩ := h.own j f z
      exact ⟨a, b, c.fits F fun ob hob => by rw [upd_ne fun y => hj (h.inj _ _ _ _ z e y)]; exact hob⟩
  · have g1 : ∃ d2, ρ[j]? = some (Sv.ow d2) := by
      rcases get_set h1 with ⟨hj, _, _⟩ | ⟨_, z⟩
      · subst hj; exact ⟨d, e⟩
      · exact ⟨_, z⟩
    have g2 : ∃ d2, ρ[k]? = some (Sv.ow d2) := by
      rcases get_set h2 with ⟨hj, _, _⟩ | ⟨_, z⟩
      · subst hj; exact ⟨d, e⟩
      · exact ⟨_, z⟩
    obtain ⟨_, g1⟩ := g1
    obtain ⟨_, g2⟩ := g2
    exact h.inj j k _ _ g1 g2 z
  · rw [so]
    rcases get_set hf with ⟨_, z, _⟩ | ⟨hj, z⟩
    · cases z
    · obtain ⟨u, a, b⟩ := h.ro j f z
      exact ⟨u, a, Dn.fits F f u b⟩
theorem ST.ghost (h : ST K H₀ S w σ H ρ G) {G' : List (D × V)} (hg : ∀ g ∈ G', Dn K (SO S w ρ) H g.1 g.2) : ST K H₀ S w σ H ρ G' := ⟨h.fc, h.sm, h.own, h.inj, h.ro, hg⟩
end
end L3
end
section
set_option Elab.async false
set_option linter.all false
set_option maxRecDepth 100000
set_option maxHeartbeats 3999999
namespace L3
open PySem PySem.Spec PyProof.Rows L2
noncomputable abbrev WE := DEnv → (D → Prop) → Prop
noncomputable abbrev WT := DEnv → (Bool → Prop) → Prop
noncomputable abbrev WA := DEnv → (List D → Prop) → Prop
noncomputable def lift (K : PySem.W.Frag) (t : WE) : TE := fun σ H Q => ∃ (S : Addr → Prop) (ρ : DEnv) (Q3 : D → Prop), (∀ a, H a = none → S a) ∧ Sl K S H ρ σ ∧ t ρ Q3 ∧ ∀ v H' d, Same H H' → Dn K S H' d v → Q3 d → Q v H'
noncomputable def liftT (K : PySem.W.Frag) (t : WT) : TT := fun σ H Q => ∃ (S : Addr → Prop) (ρ : DEnv) (Q3 : Bool → Prop), (∀ a, H a = none → S a) ∧ Sl K S H ρ σ ∧ t ρ Q3 ∧ ∀ b H', Same H H' → Q3 b → Q b H'
noncomputable def liftA (K : PySem.W.Frag) (t : WA) : TA := fun σ H Q => ∃ (S : Addr → Prop) (ρ : DEnv) (Q3 : List D → Prop), (∀ a, H a = none → S a) ∧ Sl K S H ρ σ ∧ t ρ Q3 ∧ ∀ vs H' ds, Same H H' → Dns K S H' ds vs → Q3 ds → Q vs H'
noncomputable def liftF (K : PySem.W.Frag) (t : WE) : TE := fun σ H Q => ∃ (S : Addr → Prop) (ρ : DEnv) (Q3 : D → Prop), (∀ a, H a = none → S a) ∧ Sl K S H ρ σ ∧ t ρ Q3 ∧
  ∀ p xs H' ds, H p = none → H' p = some (.lst xs) → Same H H' → Dns K (fun a => S a ∧ a ≠ p) H' ds xs → Q3 (.lst ds) → Q (.ref p) H'
noncomputable def PE3 (X : Cx) (e : Expr) (t : WE) : Prop := PE X e (lift X.K t)
noncomputable def PF3 (X : Cx) (e : Expr) (t : WE) : Prop := PE X e (liftF X.K t)
noncomputable def PT3 (X : Cx) (e : Expr) (t : WT) : Prop := PT X e (liftT X.K t)
noncomputable def PA3 (X : Cx) (es : List Expr) (t : WA) : Prop := PA X es (liftA X.K t)
section
variable {X : Cx}
theorem imp {e : Expr} {t t' : TE} (h : PE X e t) (f : ∀ σ H Q, t' σ H Q → t σ H Q) : PE X e t' := fun pins s σ H Q I q => h pins s σ H Q I (f σ H Q q)
theorem impT {e : Expr} {t t' : TT} (h : PT X e t) (f : ∀ σ H Q, t' σ H Q → t σ H Q) : PT X e t' := fun pins s σ H Q I q => h pins s σ H Q I (f σ H Q q)
theorem impA {e : List Expr} {t t' : TA} (h : PA X e t) (f : ∀ σ H Q, t' σ H Q → t σ H Q) : PA X e t' := fun pos pins s σ H Q I q => h pos pins s σ H Q I (f σ H Q q)
theorem fc_same {H H' : Hp} {S : Addr → Prop} (fc : ∀ a, H a = none → S a) (s : Same H H') : ∀ a, H' a = none → S a := fun a e => fc a (s.free e)
theorem PF3.pe {e : Expr} {t : WE} (h : PF3 X e t) : PE3 X e t := imp h fun σ H Q hq9 => by
 obtain ⟨S, ρ, Q3, fc, sl, ht, k⟩ := hq9
 exact ⟨S, ρ, Q3, fc, sl, ht, fun p xs H' ds hp hp' s dn q => k _ H' _ s (by simp only [Dn]; exact ⟨p, xs, rfl, hp', fc p hp, Dns.fits (.mono fun _ z => z.1) ds xs dn⟩) q⟩
noncomputable def wVar (i : Nat) : WE := fun ρ Q => match ρ[i]? with
  | some (some d) => Q d
  | _ => False
noncomputable def wC (d : D) : WE := fun _ Q => Q d
theorem lift_var {K : PySem.W.Frag} {i : Nat} {σ : L2.St} {H : Hp} {Q : VK} (h : lift K (wVar i) σ H Q) : tVar i σ H Q := by
  obtain ⟨S, ρ, Q3, fc, sl, ht, k⟩ := h
  unfold wVar at ht
  split at ht
  · rename_i d e
    obtain ⟨v, e1, q⟩ := sl i d e
    exact ⟨v, e1, k v H d (Same.refl H) q ht⟩
  · exact ht.elim
theorem x3 (i : Nat) {x : Str} {pos : Pos} (hN : X.N[i]? = some x := by rfl) (hv : Vis X.env.scope x := by first | exact Or.inl rfl | exact Or.inr (Or.inl rfl) | exact Or.inr (Or.inr rfl)) (hd : (x == ("__debug__" : Str)) = false := by decide)
    (hcd : (x == ("__classdict__" : Str)) = false := by decide) : PE3 X (.Name x pos) (wVar i) := imp (pe_var hN hv hd hcd) fun _ _ _ => lift_var
theorem lift_c {K : PySem.W.Frag} {d : D} {v : V} {σ : L2.St} {H : Hp} {Q : VK} (hd : ∀ S H, Dn K S H d v) (h : lift K (wC d) σ H Q) : tC v σ H Q := by
  obtain ⟨S, ρ, Q3, fc, sl, ht, k⟩ := h
  exact k v H d (Same.refl H) (hd S H) ht
theorem i3 {i : Int} {j pos} : PE3 X (.Constant (.int i) j pos) (wC (.int i)) := imp pe_int fun _ _ _ => lift_c (fun _ _ => by simp only [Dn])
theorem b3 {b : Bool} {j pos} : PE3 X (.Constant (.bool b) j pos) (wC (.bl b)) := imp pe_bl fun _ _ _ => lift_c (fun _ _ => by simp only [Dn])
theorem n3 {j pos} : PE3 X (.Constant .none j pos) (wC .non) := imp pe_non fun _ _ _ => lift_c (fun _ _ => by simp only [Dn])
theorem s3 {x : Str} {j pos} : PE3 X (.Constant (.str x) j pos) (wC (.str x)) := imp pe_str fun _ _ _ => lift_c (fun _ _ => by simp only [Dn])
theorem g3 {x : Str} {i : Int} {t : Tok} {pos : Pos} (hg : Gl X x) (hm : X.mg x = some (.int i t)) (hd : (x == ("__debug__" : Str)) = false := by decide) : PE3 X (.Name x pos) (wC (.int i)) :=
  imp (pe_glob hg hm (v := .int i) ⟨t, rfl⟩ hd) fun _ _ _ => lift_c (fun _ _ => by simp only [Dn])
noncomputable abbrev F2 := D → D → (D → Prop) → Prop
noncomputable def wBin (f : F2) (ta tb : WE) : WE := fun ρ Q => ta ρ fun x => tb ρ fun y => f x y Q
noncomputable def O3 (K : PySem.W.Frag) (r : R2) (f : F2) : Prop := ∀ (S : Addr → Prop) (H : Hp) (x y : V) (dx dy : D) (Q3 : D → Prop) (Q : VK), (∀ a, H a = none → S a) → Dn K S H dx x → Dn K S H dy y → f dx dy Q3 →
  (∀ v H' d, Same H H' → Dn K S H' d v → Q3 d → Q v H') → r x y H Q
theorem lift_bin {K : PySem.W.Frag} {r : R2} {f : F2} {ta tb : WE} {σ : L2.St} {H : Hp} {Q : VK} (h3 : O3 K r f) (h : lift K (wBin f ta tb) σ H Q) : tOp r (lift K ta) (lift K tb) σ H Q := by
  obtain ⟨S, ρ, Q3, fc, sl, ht, k⟩ := h
  refine ⟨S, ρ, _, fc, sl, ht, fun v H1 d s1 d1 q1 => ?_⟩
  refine ⟨S, ρ, _, fc_same fc s1, Sl.fits (.same s1) sl, q1, fun u H2 d2 s2 d2' q2 => ?_⟩
  exact h3 S H2 v u d d2 Q3 Q (fc_same fc (s1.trans s2)) (Dn.fits (.same s2) _ _ d1) d2' q2 fun v' H' d' s' dn' q' => k v' H' d' ((s1.trans s2).trans s') dn' q'
theorem op3 {a b : Expr} {op : Operator} {pos : Pos} {r : R2} {f : F2} {ta tb : WE} (ho : OpR X (binaryOp op) r) (h3 : O3 X.K r f) (ha : PE3 X a ta) (hb : PE3 X b tb) : PE3 X (.BinOp a op b pos) (wBin f ta tb) :=
  imp (pe_op ho ha hb) fun _ _ _ => lift_bin h3
noncomputable def intF (C : Int → Int → Prop) (g : Int → Int → D) : F2
  | .int i, .int j, Q => C i j ∧ Q (g i j)
  | _, _, _ => False
theorem o3_int {K : PySem.W.Frag} {C : Int → Int → Prop} {g : Int → Int → Int} : O3 K (rI C fun i j => .int (g i j)) (intF C fun i j => .int (g i j)) := by
  intro S H x y dx dy Q3 Q fc hx hy hf k
  cases dx <;> cases dy <;> try exact hf.elim
  simp only [Dn] at hx hy
  exact ⟨_, _, hx, hy, hf.1, k _ H _ (Same.refl H) (by simp only [Dn]) hf.2⟩
noncomputable def intF0 (g : Int → Int → D) : F2
  | .int i, .int j, Q => Q (g i j)
  | _, _, _ => False
theorem o3_int0 {K : PySem.W.Frag} {g : Int → Int → Int} : O3 K (rI0 fun i j => .int (g i j)) (intF0 fun i j => .int (g i j)) := by
  intro S H x y dx dy Q3 Q fc hx hy hf k
  cases dx <;> cases dy <;> try exact hf.elim
  simp only [Dn] at hx hy
  exact ⟨_, _, hx, hy, k _ H _ (Same.refl H) (by simp only [Dn]) hf⟩
noncomputable def subF : F2 := intF0 fun i j => .int (i - j)
noncomputable def modF : F2 := intF (fun _ j => 0 < j) fun i j => .int (i % j)
noncomputable def divF : F2 := intF CDiv fun i j => .int (i / j)
noncomputable def powF : F2 := intF CPow fun i j => .int (i ^ j.toNat)
section
variable {a b : Expr} {pos : Pos} {ta tb : WE}
theorem sub3 (ha : PE3 X a ta) (hb : PE3 X b tb) : PE3 X (.BinOp a .Sub b pos) (wBin subF ta tb) := op3 op_sub o3_int0 ha hb
theorem mod3 (ha : PE3 X a ta) (hb : PE3 X b tb) : PE3 X (.BinOp a .Mod b pos) (wBin modF ta tb) := op3 op_mod o3_int ha hb
theorem div3 (ha : PE3 X a ta) (hb : PE3 X b tb) : PE3 X (.BinOp a .FloorDiv b pos) (wBin divF ta tb) := op3 op_fdiv o3_int ha hb
theorem pow3 (ha : PE3 X a ta) (hb : PE3 X b tb) : PE3 X (.BinOp a .Pow b pos) (wBin powF ta tb) := op3 op_pow o3_int ha hb
end
noncomputable def catTF (K : PySem.W.Frag) : R2 := fun x y H Q => ∃ a b xs ys, x = .ref a ∧ y = .ref b ∧ SqT K H a xs ∧ SqT K H b ys ∧ xs.length + ys.length ≤ sizeLine ∧
  (xs = [] → Q (.ref b) H) ∧ (xs ≠ [] → ys = [] → Q (.ref a) H) ∧ (xs ≠ [] → ys ≠ [] → ∀ p, H p = none → Q (.ref p) (upd H p (.tup (xs ++ ys))))
theorem cat_tup0 {prog : Program} {w : World} {A : Around} {E : Value → Shared → Prop} {s : Shared} {t b : Addr} {ws : List Value} {Q : Value → Shared → Prop} (ht : IsTup s.heap t #[]) (hb : IsTup s.heap b ws.toArray)
    (h1 : Q (.ref b) s) : wpAny (model prog w) A (binaryOp .Add (.ref t) (.ref b)) Q E s := by
  obtain ⟨⟨cls, dd, data, sl⟩, ho, hc, n, hd⟩ := id ht
  obtain ⟨⟨cls2, dd2, data2, sl2⟩, ho2, hc2, n2, hd2⟩ := id hb
  simp only at hc hd hc2 hd2
  subst hc hd hc2 hd2
  exact concat_meets ⟨_, ho, rfl⟩ ⟨_, ho2, rfl⟩ noFill_tuple_add seq_tuple_add PySem.F.slot_tuple_add PySem.F.entry_tuple_add (PySem.F.args_tuple_add_2 _ _)
      (tuple_addW0 t b #[] ws.toArray n n2 dd dd2 sl sl2 (by simp)) ⟨ho, ho2, h1⟩
theorem op_catT2 : OpR X (binaryOp .Add) (catTF X.K) := by
  intro pins s σ H x y v u Q I rx ry h
  obtain ⟨a, b, xs, ys, rfl, rfl, ha, hb, hz, q0, q1, q2⟩ := h
  by_cases hx : xs = []
  · cases rx
    cases ry
    subst hx
    obtain ⟨its, r1, p1, _⟩ := I.tuple ha
    obtain ⟨its2, r2, p2, _⟩ := I.tuple hb
    cases r1
    exact cat_tup0 p1 p2 ⟨.ref b, H, I, rfl, q0 rfl⟩
  · exact op_catT pins s σ H _ _ v u Q I rx ry ⟨a, b, xs, ys, rfl, rfl, ha, hb, hx, hz, q1 hx, q2 hx⟩
noncomputable def addF : F2
  | .int i, .int j, Q => Q (.int (i + j))
  | .lst a, .lst b, Q => a.length + b.length ≤ sizeLine ∧ Q (.lst (a ++ b))
  | .tup a, .tup b, Q => a.length + b.length ≤ sizeLine ∧ Q (.tup (a ++ b))
  | .str a, .str b, Q => a.length + b.length ≤ sizeLine ∧ Q (.str (a ++ b))
  | _, _, _ => False
noncomputable def rAdd (K : PySem.W.Frag) : R2 := fun x y H Q => (rI0 fun i j => .int (i + j)) x y H Q ∨ (rCat x y H Q ∨ (catTF K x y H Q ∨ ∃ i j, x = .str i ∧ y = .str j ∧ i.length + j.length ≤ sizeLine ∧ Q (.str (i ++ j)) H))
theorem o3_add {K : PySem.W.Frag} : O3 K (rAdd K) addF := by
  intro S H x y dx dy Q3 Q fc hx hy hf k
  cases dx with
  | int i =>
    cases dy with
    | int j => simp only [Dn] at hx hy; exact .inl ⟨_, _, hx, hy, k _ H _ (Same.refl H) (by simp only [Dn]) hf⟩
    | _ => exact hf.elim
  | str i =>
    cases dy with
    | str j => simp only [Dn] at hx hy; exact .inr (.inr (.inr ⟨_, _, hx, hy, hf.1, k _ H _ (Same.refl H) (by simp only [Dn]) hf.2⟩))
    | _ => exact hf.elim
  | lst ds =>
    cases dy with
    | lst es =>
      simp only [Dn] at hx hy
      obtain ⟨a, xs, rfl, ha, sa, da⟩ := hx
      obtain ⟨b, ys, rfl, hb, sb, db⟩ := hy
      refine .inr (.inl ⟨a, b, xs, ys, rfl, rfl, ha, hb, by rw [← da.len, ← db.len]; exact hf.1, fun p hp => k _ _ _ (same_upd hp) ?_ hf.2⟩)
      simp only [Dn]
      exact ⟨p, _, rfl, upd_same, fc p hp, Dns.fits (.same (same_upd hp)) _ _ (da.append db)⟩
    | _ => exact hf.elim
  | tup ds =>
    cases dy with
    | tup es =>
      simp only [Dn] at hx hy
      obtain ⟨a, xs, rfl, ha, da⟩ := hx
      obtain ⟨b, ys, rfl, hb, db⟩ := hy
      refine .inr (.inr (.inl ⟨a, b, xs, ys, rfl, rfl, SqT.of ha, SqT.of hb, by rw [← da.len, ← db.len]; exact hf.1, fun e => ?_, fun _ e => ?_, fun _ _ p hp => ?_⟩))
      · subst e
        have e2 : ds = [] := List.length_eq_zero_iff.mp da.len
        subst e2
        exact k _ H _ (Same.refl H) (by simp only [Dn]; exact ⟨b, ys, rfl, hb, db⟩) hf.2
      · subst e
        have e2 : es = [] := List.length_eq_zero_iff.mp db.len
        subst e2
        have q := hf.2
        rw [List.append_nil] at q
        exact k _ H _ (Same.refl H) (by simp only [Dn]; exact ⟨a, xs, rfl, ha, da⟩) q
      · refine k _ _ _ (same_upd hp) ?_ hf.2
        simp only [Dn]
        exact ⟨p, _, rfl, upd_same, Dns.fits (.same (same_upd hp)) _ _ (da.append db)⟩
    | _ => exact hf.elim
  | _ => cases dy <;> exact hf.elim
theorem op_add3 : OpR X (binaryOp .Add) (rAdd X.K) := OpR.or op_add (OpR.or op_cat (OpR.or op_catT2 op_add_str))
theorem add3 {a b : Expr} {pos : Pos} {ta tb : WE} (ha : PE3 X a ta) (hb : PE3 X b tb) : PE3 X (.BinOp a .Add b pos) (wBin addF ta tb) := op3 op_add3 o3_add ha hb
noncomputable def catF : F2
  | .lst a, .lst b, Q => a.length + b.length ≤ sizeLine ∧ Q (.lst (a ++ b))
  | _, _, _ => False
theorem catN3 {a b : Expr} {pos : Pos} {ta tb : WE} (ha : PE3 X a ta) (hb : PE3 X b tb) : PF3 X (.BinOp a .Add b pos) (wBin catF ta tb) := imp (pe_op op_cat ha hb) fun σ H Q h => by
  obtain ⟨S, ρ, Q3, fc, sl, ht, k⟩ := h
  refine ⟨S, ρ, _, fc, sl, ht, fun v H1 d s1 d1 q1 => ?_⟩
  refine ⟨S, ρ, _, fc_same fc s1, Sl.fits (.same s1) sl, q1, fun u H2 d2 s2 d2' q2 => ?_⟩
  cases d <;> cases d2 <;> try exact q2.elim
  simp only [Dn] at d1 d2'
  obtain ⟨a, xs, rfl, ha, sa, da⟩ := d1
  obtain ⟨b, ys, rfl, hb, sb, db⟩ := d2'
  have da' := Dns.fits (.same s2) _ _ da
  refine ⟨a, b, xs, ys, rfl, rfl, s2 _ _ ha, hb, by rw [← da.len, ← db.len]; exact q2.1, fun p hp => k p _ _ _ ((s1.trans s2).free hp) upd_same ((s1.trans s2).trans (same_upd hp)) ?_ q2.2⟩
  exact Dns.fits ((Fits.fresh hp).trans (.same (same_upd hp))) _ _ (da'.append db)
noncomputable def wNil : WA := fun _ Q => Q []
noncomputable def wCons (ta : WE) (t : WA) : WA := fun ρ Q => ta ρ fun d => t ρ fun ds => Q (d :: ds)
theorem nil3 : PA3 X [] wNil := impA pa_nil fun σ H Q hq10 => by obtain ⟨S, ρ, Q3, fc, sl, ht, k⟩ := hq10; exact k [] H [] (Same.refl H) Dns.nil ht
theorem cons3 {e : Expr} {es : List Expr} {te : WE} {t : WA} (ha : PE3 X e te) (hr : PA3 X es t) (hs : starEach (e :: es) X.env = (false, eval e X.env) :: starEach es X.env := by rfl) : PA3 X (e :: es) (wCons te t) :=
  impA (pa_cons ha hr hs) fun σ H Q hq11 => by
    obtain ⟨S, ρ, Q3, fc, sl, ht, k⟩ := hq11
    refine ⟨S, ρ, _, fc, sl, ht, fun v H1 d s1 d1 q1 => ?_⟩
    refine ⟨S, ρ, _, fc_same fc s1, Sl.fits (.same s1) sl, q1, fun us H2 ds s2 d2 q2 => ?_⟩
    exact k _ H2 _ (s1.trans s2) (Dns.cons (Dn.fits (.same s2) _ _ d1) d2) q2
noncomputable def wTup (t : WA) : WE := fun ρ Q => t ρ fun ds => ds.length ≤ sizeLine ∧ Q (.tup ds)
noncomputable def wLst (t : WA) : WE := fun ρ Q => t ρ fun ds => ds.length ≤ sizeLine ∧ Q (.lst ds)
theorem tup3 {es : List Expr} {t : WA} {x1} {pos : Pos} (h : PA3 X es t) : PE3 X (.Tuple es x1 pos) (wTup t) := imp (pe_tup h) fun σ H Q hq12 => by
  obtain ⟨S, ρ, Q3, fc, sl, ht, k⟩ := hq12
  refine ⟨S, ρ, _, fc, sl, ht, fun vs H1 ds s1 d1 q1 => ⟨by rw [← d1.len]; exact q1.1, fun p hp => k _ _ _ (s1.trans (same_upd hp)) ?_ q1.2⟩⟩
  simp only [Dn]
  exact ⟨p, _, rfl, upd_same, Dns.fits (.same (same_upd hp)) _ _ d1⟩
theorem lst3 {es : List Expr} {t : WA} {pos : Pos} (h : PA3 X es t) : PF3 X (.List es pos) (wLst t) := imp (pe_lst h) fun σ H Q hq13 => by
  obtain ⟨S, ρ, Q3, fc, sl, ht, k⟩ := hq13
  refine ⟨S, ρ, _, fc, sl, ht, fun vs H1 ds s1 d1 q1 => ⟨by rw [← d1.len]; exact q1.1, fun p hp => k p vs _ ds (s1.free hp) upd_same (s1.trans (same_upd hp)) ?_ q1.2⟩⟩
  exact Dns.fits ((Fits.fresh hp).trans (.same (same_upd hp))) _ _ d1
end
end L3
end
section
set_option Elab.async false
set_option linter.all false
set_option maxRecDepth 100000
set_option maxHeartbeats 3999999
namespace L3
open PySem PySem.Spec PyProof.Rows L2
section
variable {X : Cx}
noncomputable def wTest (t : WE) : WT := fun ρ Q => t ρ fun d => match d with
  | .bl b => Q b
  | _ => False
theorem lift_test {K : PySem.W.Frag} {t : WE} {σ : L2.St} {H : Hp} {Q : Bool → Hp → Prop} (h : liftT K (wTest t) σ H Q) : tTest (lift K t) σ H Q := by
  obtain ⟨S, ρ, Q3, fc, sl, ht, k⟩ := h
  refine ⟨S, ρ, _, fc, sl, ht, fun v H1 d s1 d1 q1 => ?_⟩
  cases d with
  | bl b => simp only [Dn] at d1; exact ⟨b, d1, k b H1 s1 q1⟩
  | _ => exact q1.elim
theorem tTest_mono {t t' : TE} {σ : L2.St} {H : Hp} {Q : Bool → Hp → Prop} (f : ∀ σ H Q, t' σ H Q → t σ H Q) (h : tTest t' σ H Q) : tTest t σ H Q := f σ H _ h
theorem cmp3 {a b : Expr} {op : CmpOp} {pos : Pos} {r : R2} {f : F2} {ta tb : WE} (ho : OpR X (compareOp op) r) (h3 : O3 X.K r f) (ha : PE3 X a ta) (hb : PE3 X b tb) (hm : behindInMarks op b = false) : PE3 X (.Compare a [op] [b] pos) (wBin f ta tb) :=
  imp (pe_cmpR ho ha hb hm) fun _ _ _ => lift_bin h3
theorem cmpT3 {a b : Expr} {op : CmpOp} {pos : Pos} {r : R2} {f : F2} {ta tb : WE} (ho : OpR X (compareOp op) r) (h3 : O3 X.K r f) (ha : PE3 X a ta) (hb : PE3 X b tb) (hm : behindInMarks op b = false) : PT3 X (.Compare a [op] [b] pos) (wTest (wBin f ta tb)) :=
  impT (pt_cmpR ho ha hb hm) fun _ _ _ h => tTest_mono (fun _ _ _ => lift_bin h3) (lift_test h)
theorem o3_cmp {K : PySem.W.Frag} {g : Int → Int → Bool} : O3 K (rI0 fun i j => .bl (g i j)) (intF0 fun i j => .bl (g i j)) := by
  intro S H x y dx dy Q3 Q fc hx hy hf k
  cases dx <;> cases dy <;> try exact hf.elim
  simp only [Dn] at hx hy
  exact ⟨_, _, hx, hy, k _ H _ (Same.refl H) (by simp only [Dn]) hf⟩
noncomputable def scalD : D → D → Bool
  | .non, .non => true | .non, .int _ => true | .int _, .non => true | .non, .bl _ => true | .bl _, .non => true | .non, .str _ => true | .str _, .non => true
  | .int _, .int _ => true | .bl _, .bl _ => true | .str _, .str _ => true | .int _, .str _ => true | .str _, .int _ => true | .bl _, .str _ => true | .str _, .bl _ => true
  | _, _ => false
noncomputable def eqS : D → D → Bool
  | .non, .non => true
  | .int i, .int j => decide (i = j)
  | .bl i, .bl j => decide (i = j)
  | .str i, .str j => decide (i = j)
  | _, _ => false
noncomputable def eqSF : F2 := fun x y Q => scalD x y = true ∧ Q (.bl (eqS x y))
noncomputable def neSF : F2 := fun x y Q => scalD x y = true ∧ Q (.bl (!eqS x y))
theorem scal_eq {K : PySem.W.Frag} {S : Addr → Prop} {H : Hp} {x y : V} {dx dy : D} (hx : Dn K S H dx x) (hy : Dn K S H dy y) (h : scalD dx dy = true) : scal x y = true ∧ decide (x = y) = eqS dx dy := by
  cases dx <;> first
    | (exact absurd (show false = true from h) Bool.false_ne_true)
    | skip
  all_goals (cases dy <;> first
    | (exact absurd (show false = true from h) Bool.false_ne_true)
    | (simp only [Dn] at hx hy; subst hx; subst hy; exact ⟨rfl, by first | exact dec_int | exact dec_bl | exact dec_str | exact decide_eq_false (fun h => by cases h) | exact decide_eq_true rfl⟩))
theorem o3_eqS {K : PySem.W.Frag} : O3 K rEq eqSF := by
  intro S H x y dx dy Q3 Q fc hx hy hf k
  obtain ⟨h1, h2⟩ := scal_eq hx hy hf.1
  exact ⟨h1, k _ H _ (Same.refl H) (by simp only [Dn]; rw [h2]) hf.2⟩
theorem o3_neS {K : PySem.W.Frag} : O3 K rNe neSF := by
  intro S H x y dx dy Q3 Q fc hx hy hf k
  obtain ⟨h1, h2⟩ := scal_eq hx hy hf.1
  exact ⟨h1, k _ H _ (Same.refl H) (by simp only [Dn]; rw [h2]) hf.2⟩
noncomputable def allI : List D → Bool
  | [] => true
  | .int _ :: r => allI r
  | _ :: _ => false
noncomputable def memI (i : Int) : List D → Bool
  | [] => false
  | .int j :: r => j == i || memI i r
  | _ :: r => memI i r
theorem allI_ints : ∀ ns : List Int, allI (ns.map D.int) = true
  | [] => rfl
  | n :: ns => by rw [List.map_cons]; exact allI_ints ns
theorem memI_ints (i : Int) : ∀ ns : List Int, memI i (ns.map D.int) = ns.contains i
  | [] => rfl
  | n :: ns => by
    rw [List.map_cons, memI, memI_ints i ns, List.contains_cons]
    congr 1
    exact Bool.beq_comm
theorem allI_of : ∀ {ds : List D}, allI ds = true → ∃ ns : List Int, ds = ns.map D.int
  | [], _ => ⟨[], rfl⟩
  | .int n :: r, h => by
    obtain ⟨ns, e⟩ := allI_of (ds := r) h
    exact ⟨n :: ns, by rw [e]; rfl⟩
  | .non :: r, h => absurd (show false = true from h) Bool.false_ne_true
  | .bl _ :: r, h => absurd (show false = true from h) Bool.false_ne_true
  | .str _ :: r, h => absurd (show false = true from h) Bool.false_ne_true
  | .tup _ :: r, h => absurd (show false = true from h) Bool.false_ne_true
  | .lst _ :: r, h => absurd (show false = true from h) Bool.false_ne_true
  | .scr _ :: r, h => absurd (show false = true from h) Bool.false_ne_true
  | .dic _ _ :: r, h => absurd (show false = true from h) Bool.false_ne_true
  | .dicT _ _ _ :: r, h => absurd (show false = true from h) Bool.false_ne_true
noncomputable def inF (neg : Bool) : F2
  | .int i, .tup ds, Q => allI ds = true ∧ Q (.bl (if neg then !memI i ds else memI i ds))
  | .int i, .lst ds, Q => allI ds = true ∧ Q (.bl (if neg then !memI i ds else memI i ds))
  | _, _, _ => False
theorem inV_ints (i : Int) : ∀ ns : List Int, inV (.int i) (ns.map V.int) = memI i (ns.map D.int)
  | [] => rfl
  | n :: ns => by
    have e := inV_ints i ns
    unfold inV at e ⊢
    rw [List.map_cons, List.map_cons, List.any_cons, memI, e]
    rfl
theorem flat_ints : ∀ ns : List Int, (ns.map V.int).all flatV = true
  | [] => rfl
  | n :: ns => by rw [List.map_cons, List.all_cons, flat_ints ns]; rfl
theorem o3_in {K : PySem.W.Frag} {neg : Bool} : O3 K (rIn K neg) (inF neg) := by
  intro S H x y dx dy Q3 Q fc hx hy hf k
  cases dx with
  | int i =>
    simp only [Dn] at hx
    subst hx
    cases dy with
    | tup ds =>
      simp only [Dn] at hy
      obtain ⟨a, xs, rfl, ha, da⟩ := hy
      obtain ⟨h1, h2⟩ := hf
      obtain ⟨ns, rfl⟩ := allI_of h1
      have e := Dns.ints.mp da
      subst e
      refine ⟨a, _, rfl, .inr (SqT.of ha), rfl, flat_ints ns, k _ H _ (Same.refl H) ?_ h2⟩
      simp only [Dn]
      rw [inV_ints]
    | lst ds =>
      simp only [Dn] at hy
      obtain ⟨a, xs, rfl, ha, _, da⟩ := hy
      obtain ⟨h1, h2⟩ := hf
      obtain ⟨ns, rfl⟩ := allI_of h1
      have e := Dns.ints.mp da
      subst e
      refine ⟨a, _, rfl, .inl (SqL.of ha), rfl, flat_ints ns, k _ H _ (Same.refl H) ?_ h2⟩
      simp only [Dn]
      rw [inV_ints]
    | _ => exact hf.elim
  | _ => cases dy <;> exact hf.elim
section
variable {a b : Expr} {pos : Pos} {ta tb : WE}
noncomputable def ltF : F2 := intF0 fun i j => .bl (decide (i < j))
noncomputable def gtF : F2 := intF0 fun i j => .bl (decide (i > j))
noncomputable def geF : F2 := intF0 fun i j => .bl (decide (i ≥ j))
theorem eqS3 (ha : PE3 X a ta) (hb : PE3 X b tb) : PE3 X (.Compare a [.Eq] [b] pos) (wBin eqSF ta tb) := cmp3 op_eq o3_eqS ha hb (nomark _)
theorem in3 (ha : PE3 X a ta) (hb : PE3 X b tb) (hm : behindInMarks .In b = false := by with_unfolding_all rfl) : PE3 X (.Compare a [.In] [b] pos) (wBin (inF false) ta tb) := cmp3 op_in_seq o3_in ha hb hm
theorem ltT3 (ha : PE3 X a ta) (hb : PE3 X b tb) : PT3 X (.Compare a [.Lt] [b] pos) (wTest (wBin ltF ta tb)) := cmpT3 op_lt o3_cmp ha hb (nomark _)
theorem gtT3 (ha : PE3 X a ta) (hb : PE3 X b tb) : PT3 X (.Compare a [.Gt] [b] pos) (wTest (wBin gtF ta tb)) := cmpT3 op_gt o3_cmp ha hb (nomark _)
theorem geT3 (ha : PE3 X a ta) (hb : PE3 X b tb) : PT3 X (.Compare a [.GtE] [b] pos) (wTest (wBin geF ta tb)) := cmpT3 op_ge o3_cmp ha hb (nomark _)
theorem eqST3 (ha : PE3 X a ta) (hb : PE3 X b tb) : PT3 X (.Compare a [.Eq] [b] pos) (wTest (wBin eqSF ta tb)) := cmpT3 op_eq o3_eqS ha hb (nomark _)
theorem neST3 (ha : PE3 X a ta) (hb : PE3 X b tb) : PT3 X (.Compare a [.NotEq] [b] pos) (wTest (wBin neSF ta tb)) := cmpT3 op_ne o3_neS ha hb (nomark _)
theorem ninT3 (ha : PE3 X a ta) (hb : PE3 X b tb) (hm : behindInMarks .NotIn b = false := by with_unfolding_all rfl) : PT3 X (.Compare a [.NotIn] [b] pos) (wTest (wBin (inF true) ta tb)) := cmpT3 op_notIn_seq o3_in ha hb hm
end
noncomputable def isD : D → Bool
  | .non => true
  | _ => false
noncomputable def isNF : F2 := fun x y Q => isD y = true ∧ Q (.bl (isD x))
theorem o3_isN {K : PySem.W.Frag} : O3 K (fun x y H Q => y = .non ∧ Q (.bl (decide (x = .non))) H) isNF := by
  intro S H x y dx dy Q3 Q fc hx hy hf k
  obtain ⟨h1, h2⟩ := hf
  cases dy <;> try exact absurd (show false = true from h1) Bool.false_ne_true
  simp only [Dn] at hy
  refine ⟨hy, k _ H _ (Same.refl H) ?_ h2⟩
  cases dx <;> simp only [Dn] at hx ⊢
  all_goals first
    | (subst hx; simp [isD])
    | (obtain ⟨a, xs, rfl, _⟩ := hx; simp [isD])
    | (obtain ⟨a, _, xs, rfl, _⟩ := hx; simp [isD])
    | (obtain ⟨a, rfl, _⟩ := hx; simp [isD])
theorem isNT3 {a b : Expr} {pos : Pos} {ta tb : WE} (ha : PE3 X a ta) (hb : PE3 X b tb) : PT3 X (.Compare a [.Is] [b] pos) (wTest (wBin isNF ta tb)) := cmpT3 op_isN o3_isN ha hb (nomark _)
theorem isN3 {a b : Expr} {pos : Pos} {ta tb : WE} (ha : PE3 X a ta) (hb : PE3 X b tb) : PE3 X (.Compare a [.Is] [b] pos) (wBin isNF ta tb) := cmp3 op_isN o3_isN ha hb (nomark _)
noncomputable def wNotT (t : WT) : WT := fun ρ Q => t ρ fun b => Q (!b)
noncomputable def wAndT (t u : WT) : WT := fun ρ Q => t ρ fun b => if b = true then u ρ Q else Q false
noncomputable def wOrT (t u : WT) : WT := fun ρ Q => t ρ fun b => if b = true then Q true else u ρ Q
noncomputable def PW3 (X : Cx) (e : Expr) (t : WT) : Prop := PW X e (liftT X.K t)
theorem impW {e : Expr} {t t' : TT} (h : PW X e t) (f : ∀ σ H Q, t' σ H Q → t σ H Q) : PW X e t' := fun wh pins s σ H Q I q => h wh pins s σ H Q I (f σ H Q q)
section
variable {a b : Expr} {rest : List Expr} {pos : Pos} {ta tb : WT}
theorem PW3.pt {e : Expr} {t : WT} (h : PW3 X e t) : PT3 X e t := PW.pt h
theorem notT3 (ha : PT3 X a ta) : PT3 X (.UnaryOp .Not a pos) (wNotT ta) := impT (pt_not ha) fun σ H Q hq14 => by obtain ⟨S, ρ, Q3, fc, sl, ht, k⟩ := hq14; exact ⟨S, ρ, _, fc, sl, ht, fun b H1 s1 q1 => k (!b) H1 s1 q1⟩
theorem and1 (ha : PT3 X a ta) : PW3 X (.BoolOp .And [a] pos) ta := pw_and1 ha
theorem or1 (ha : PT3 X a ta) : PW3 X (.BoolOp .Or [a] pos) ta := pw_or1 ha
theorem andT3 (ha : PT3 X a ta) (hb : PW3 X (.BoolOp .And (b :: rest) pos) tb) : PW3 X (.BoolOp .And (a :: b :: rest) pos) (wAndT ta tb) := impW (pw_and ha hb) fun σ H Q hq15 => by
  obtain ⟨S, ρ, Q3, fc, sl, ht, k⟩ := hq15
  refine ⟨S, ρ, _, fc, sl, ht, fun c H1 s1 q1 => ?_⟩
  cases c with
  | true => rw [if_pos rfl] at q1 ⊢; exact ⟨S, ρ, Q3, fc_same fc s1, Sl.fits (.same s1) sl, q1, fun b' H2 s2 q2 => k b' H2 (s1.trans s2) q2⟩
  | false => rw [if_neg Bool.false_ne_true] at q1 ⊢; exact k false H1 s1 q1
theorem orT3 (ha : PT3 X a ta) (hb : PW3 X (.BoolOp .Or (b :: rest) pos) tb) : PW3 X (.BoolOp .Or (a :: b :: rest) pos) (wOrT ta tb) := impW (pw_or ha hb) fun σ H Q hq16 => by
  obtain ⟨S, ρ, Q3, fc, sl, ht, k⟩ := hq16
  refine ⟨S, ρ, _, fc, sl, ht, fun c H1 s1 q1 => ?_⟩
  cases c with
  | false => rw [if_neg Bool.false_ne_true] at q1 ⊢; exact ⟨S, ρ, Q3, fc_same fc s1, Sl.fits (.same s1) sl, q1, fun b' H2 s2 q2 => k b' H2 (s1.trans s2) q2⟩
  | true => rw [if_pos rfl] at q1 ⊢; exact k true H1 s1 q1
end
noncomputable def wAnd (ta tb : WE) : WE := fun ρ Q => ta ρ fun x => match x with
  | .bl true => tb ρ Q
  | .bl false => Q (.bl false)
  | _ => False
noncomputable def wNot (ta : WE) : WE := fun ρ Q => ta ρ fun x => match x with
  | .bl b => Q (.bl (!b))
  | _ => False
section
variable {a b c : Expr} {rest : List Expr} {pos : Pos} {ta tb : WE} {tc : WT}
theorem one3 {op} (ha : PE3 X a ta) : PE3 X (.BoolOp op [a] pos) ta := pe_one ha
theorem and3 (ha : PE3 X a ta) (hb : PE3 X (.BoolOp .And (b :: rest) pos) tb) : PE3 X (.BoolOp .And (a :: b :: rest) pos) (wAnd ta tb) := imp (pe_and ha hb) fun σ H Q hq17 => by
  obtain ⟨S, ρ, Q3, fc, sl, ht, k⟩ := hq17
  refine ⟨S, ρ, _, fc, sl, ht, fun v H1 d s1 d1 q1 => ?_⟩
  cases d with
  | bl c =>
    simp only [Dn] at d1
    refine ⟨c, d1, ?_⟩
    cases c with
    | true => rw [if_pos rfl]; exact ⟨S, ρ, Q3, fc_same fc s1, Sl.fits (.same s1) sl, q1, fun v' H2 d' s2 d2 q2 => k v' H2 d' (s1.trans s2) d2 q2⟩
    | false => rw [if_neg Bool.false_ne_true]; exact k _ H1 (.bl false) s1 (by simp only [Dn]) q1
  | _ => exact q1.elim
theorem not3 (ha : PE3 X a ta) : PE3 X (.UnaryOp .Not a pos) (wNot ta) := imp (pe_not ha) fun σ H Q hq18 => by
  obtain ⟨S, ρ, Q3, fc, sl, ht, k⟩ := hq18
  refine ⟨S, ρ, _, fc, sl, ht, fun v H1 d s1 d1 q1 => ?_⟩
  cases d with
  | bl c => simp only [Dn] at d1; exact ⟨c, d1, k _ H1 (.bl (!c)) s1 (by simp only [Dn]) q1⟩
  | _ => exact q1.elim
end
noncomputable def ixF : F2
  | .lst ds, .int i, Q => (match atI ds i with | some d => Q d | none => False)
  | .tup ds, .int i, Q => (match atI ds i with | some d => Q d | none => False)
  | .scr ns, .int i, Q => (match atI ns i with | some n => Q (.int n) | none => False)
  | _, _, _ => False
theorem Dns.at {K : PySem.W.Frag} {S : Addr → Prop} {H : Hp} {ds : List D} {xs : List V} {i : Int} {d : D} (h : Dns K S H ds xs) (e : atI ds i = some d) : ∃ v, atI xs i = some v ∧ Dn K S H d v := by
  unfold atI at e ⊢
  rw [← h.len]
  cases q : ixN ds.length i with
  | none => rw [q] at e; cases e
  | some j =>
    rw [q] at e
    obtain ⟨v, e1, dn⟩ := h.get (i := j) (d := d) e
    exact ⟨v, e1, dn⟩
theorem atI_map {α β : Type} (f : α → β) (xs : List α) (i : Int) : atI (xs.map f) i = (atI xs i).map f := by
  unfold atI
  rw [List.length_map]
  cases ixN xs.length i with
  | none => rfl
  | some j => simp
theorem o3_ix {K : PySem.W.Frag} : O3 K (fun x y H Q => rIxL K x y H Q ∨ rIxT K x y H Q) ixF := by
  intro S H x y dx dy Q3 Q fc hx hy hf k
  cases dx with
  | lst ds =>
    cases dy with
    | int i =>
      simp only [Dn] at hx hy
      obtain ⟨a, xs, rfl, ha, sa, da⟩ := hx
      have hf : (match atI ds i with | some d => Q3 d | none => False) := hf
      cases e : atI ds i with
      | none => rw [e] at hf; exact hf.elim
      | some d =>
        rw [e] at hf
        obtain ⟨v, e1, dv⟩ := da.at e
        exact .inl ⟨a, xs, i, v, rfl, hy, SqL.of ha, e1, k v H d (Same.refl H) dv hf⟩
    | _ => exact hf.elim
  | tup ds =>
    cases dy with
    | int i =>
      simp only [Dn] at hx hy
      obtain ⟨a, xs, rfl, ha, da⟩ := hx
      have hf : (match atI ds i with | some d => Q3 d | none => False) := hf
      cases e : atI ds i with
      | none => rw [e] at hf; exact hf.elim
      | some d =>
        rw [e] at hf
        obtain ⟨v, e1, dv⟩ := da.at e
        exact .inr ⟨a, xs, i, v, rfl, hy, (SqT.of ha), e1, k v H d (Same.refl H) dv hf⟩
    | _ => exact hf.elim
  | scr ns =>
    cases dy with
    | int i =>
      simp only [Dn] at hx hy
      obtain ⟨a, rfl, ha⟩ := hx
      have hf : (match atI ns i with | some n => Q3 (.int n) | none => False) := hf
      cases e : atI ns i with
      | none => rw [e] at hf; exact hf.elim
      | some n =>
        rw [e] at hf
        exact .inl ⟨a, _, i, .int n, rfl, hy, ha.sq, by rw [atI_map, e]; rfl, k _ H (.int n) (Same.refl H) (by simp only [Dn]) hf⟩
    | _ => exact hf.elim
  | _ => cases dy <;> exact hf.elim
theorem ix3 {a b : Expr} {pos : Pos} {ta tb : WE} (ha : PE3 X a ta) (hb : PE3 X b tb) (hs : PlainIx b := by intro _ _; rfl) : PE3 X (.Subscript a b pos) (wBin ixF ta tb) :=
  imp (pe_ix (ix_list.or ix_tup) ha hb hs) fun _ _ _ => lift_bin o3_ix
noncomputable abbrev F1 := List D → (D → Prop) → Prop
noncomputable def wCB (f : F1) (t : WA) : WE := fun ρ Q => t ρ fun ds => f ds Q
noncomputable def C3 (K : PySem.W.Frag) (r : List V → Hp → VK → Prop) (f : F1) : Prop := ∀ (S : Addr → Prop) (H : Hp) (xs : List V) (ds : List D) (Q3 : D → Prop) (Q : VK), (∀ a, H a = none → S a) → Dns K S H ds xs → f ds Q3 →
  (∀ v H' d, Same H H' → Dn K S H' d v → Q3 d → Q v H') → r xs H Q
noncomputable def C3F (K : PySem.W.Frag) (r : List V → Hp → VK → Prop) (f : F1) : Prop := ∀ (S : Addr → Prop) (H : Hp) (xs : List V) (ds : List D) (Q3 : D → Prop) (Q : VK), (∀ a, H a = none → S a) → Dns K S H ds xs → f ds Q3 →
  (∀ p ys H' es, H p = none → H' p = some (.lst ys) → Same H H' → Dns K (fun a => S a ∧ a ≠ p) H' es ys → Q3 (.lst es) → Q (.ref p) H') → r xs H Q
theorem lift_cb {K : PySem.W.Frag} {r : List V → Hp → VK → Prop} {f : F1} {t : WA} {σ : L2.St} {H : Hp} {Q : VK} (h3 : C3 K r f) (h : lift K (wCB f t) σ H Q) : tCB r (liftA K t) σ H Q := by
  obtain ⟨S, ρ, Q3, fc, sl, ht, k⟩ := h
  refine ⟨S, ρ, _, fc, sl, ht, fun vs H1 ds s1 d1 q1 => ?_⟩
  exact h3 S H1 vs ds Q3 Q (fc_same fc s1) d1 q1 fun v H' d s' d' q' => k v H' d (s1.trans s') d' q'
theorem lift_cbF {K : PySem.W.Frag} {r : List V → Hp → VK → Prop} {f : F1} {t : WA} {σ : L2.St} {H : Hp} {Q : VK} (h3 : C3F K r f) (h : liftF K (wCB f t) σ H Q) : tCB r (liftA K t) σ H Q := by
  obtain ⟨S, ρ, Q3, fc, sl, ht, k⟩ := h
  refine ⟨S, ρ, _, fc, sl, ht, fun vs H1 ds s1 d1 q1 => ?_⟩
  exact h3 S H1 vs ds Q3 Q (fc_same fc s1) d1 q1 fun p ys H' es hp hp' s' d' q' => k p ys H' es (s1.free hp) hp' (s1.trans s') d' q'
theorem callB3 {x : Str} {p pos : Pos} {e : Expr} {es : List Expr} {t : WA} {id : String} {r : List V → Hp → VK → Prop} {f : F1} (hc : CallR X (.builtin id) r) (h3 : C3 X.K r f) (hv : bootBuiltins x = some (.builtin id)) (hg : Gl X x) (hm : X.mg x = none) (ha : PA3 X (e :: es) t) (hn : x ≠ "__name__" := by decide) (hdb : (x == ("__debug__" : Str)) = false := by decide)
    (he : starEach (e :: es) X.env = (false, eval e X.env) :: starEach es X.env := by rfl) (hpl : (backTo pos (starEach es X.env)).any (·.1) = false := by rfl) : PE3 X (.Call (.Name x p) (e :: es) [] pos) (wCB f t) :=
  imp (pe_callB hc hg hm hv ha hn hdb he hpl) fun _ _ _ => lift_cb h3
theorem callBF3 {x : Str} {p pos : Pos} {e : Expr} {es : List Expr} {t : WA} {id : String} {r : List V → Hp → VK → Prop} {f : F1} (hc : CallR X (.builtin id) r) (h3 : C3F X.K r f) (hv : bootBuiltins x = some (.builtin id)) (hg : Gl X x) (hm : X.mg x = none) (ha : PA3 X (e :: es) t) (hn : x ≠ "__name__" := by decide) (hdb : (x == ("__debug__" : Str)) = false := by decide)
    (he : starEach (e :: es) X.env = (false, eval e X.env) :: starEach es X.env := by rfl) (hpl : (backTo pos (starEach es X.env)).any (·.1) = false := by rfl) : PF3 X (.Call (.Name x p) (e :: es) [] pos) (wCB f t) :=
  imp (pe_callB hc hg hm hv ha hn hdb he hpl) fun _ _ _ => lift_cbF h3
theorem callTy3 {x : Str} {p pos : Pos} {e : Expr} {es : List Expr} {t : WA} {T : String} {r : List V → Hp → VK → Prop} {f : F1} (hc : CallR X (.type T) r) (h3 : C3 X.K r f) (hv : bootBuiltins x = some (.type T)) (hg : Gl X x) (hm : X.mg x = none) (ha : PA3 X (e :: es) t) (hn : x ≠ "__name__" := by decide) (hdb : (x == ("__debug__" : Str)) = false := by decide)
    (he : starEach (e :: es) X.env = (false, eval e X.env) :: starEach es X.env := by rfl) (hpl : (backTo pos (starEach es X.env)).any (·.1) = false := by rfl) : PE3 X (.Call (.Name x p) (e :: es) [] pos) (wCB f t) :=
  imp (pe_callTy hc hg hm hv ha hn hdb he hpl) fun _ _ _ => lift_cb h3
noncomputable def lenF : F1
  | [.lst ds], Q => Q (.int ds.length)
  | [.tup ds], Q => Q (.int ds.length)
  | [.scr ns], Q => Q (.int ns.length)
  | _, _ => False
theorem c3_len {K : PySem.W.Frag} : C3 K (fun xs H Q => ∃ p ys, xs = [.ref p] ∧ (SqL K H p ys ∨ SqT K H p ys) ∧ Q (.int ys.length) H) lenF := by
  intro S H xs ds Q3 Q fc hd hf k
  match ds, hf with
  | [.lst es], hf =>
    obtain ⟨v, r, rfl, h1, h2⟩ := hd.uncons
    simp only [Dns] at h2
    subst h2
    simp only [Dn] at h1
    obtain ⟨a, ys, rfl, ha, sa, da⟩ := h1
    exact ⟨a, ys, rfl, .inl (SqL.of ha), k _ H _ (Same.refl H) (by simp only [Dn]; rw [da.len]) hf⟩
  | [.tup es], hf =>
    obtain ⟨v, r, rfl, h1, h2⟩ := hd.uncons
    simp only [Dns] at h2
    subst h2
    simp only [Dn] at h1
    obtain ⟨a, ys, rfl, ha, da⟩ := h1
    exact ⟨a, ys, rfl, .inr (SqT.of ha), k _ H _ (Same.refl H) (by simp only [Dn]; rw [da.len]) hf⟩
  | [.scr ns], hf =>
    obtain ⟨v, r, rfl, h1, h2⟩ := hd.uncons
    simp only [Dns] at h2
    subst h2
    simp only [Dn] at h1
    obtain ⟨a, rfl, ha⟩ := h1
    exact ⟨a, _, rfl, .inl ha.sq, k _ H _ (Same.refl H) (by simp only [Dn]; rw [List.length_map]) hf⟩
theorem len3 {p pos : Pos} {e : Expr} {t : WA} (hm : X.mg "len" = none) (ha : PA3 X [e] t) (hg : Gl X "len" := by rfl)
    (he : starEach [e] X.env = (false, eval e X.env) :: starEach [] X.env := by rfl) : PE3 X (.Call (.Name "len" p) [e] [] pos) (wCB lenF t) := callB3 call_len_seq c3_len PySem.boot_len hg hm ha (by decide) (by decide) he (by rfl)
noncomputable def tupleF : F1
  | [.lst ds], Q => Q (.tup ds)
  | [.tup ds], Q => Q (.tup ds)
  | _, _ => False
theorem c3_tuple {K : PySem.W.Frag} : C3 K (fun xs H Q => ∃ p ys, xs = [.ref p] ∧ ((SqL K H p ys ∧ ∀ l, H l = none → Q (.ref l) (upd H l (.tup ys))) ∨ (SqT K H p ys ∧ Q (.ref p) H))) tupleF := by
  intro S H xs ds Q3 Q fc hd hf k
  match ds, hf with
  | [.lst es], hf =>
    obtain ⟨v, r, rfl, h1, h2⟩ := hd.uncons
    simp only [Dns] at h2
    subst h2
    simp only [Dn] at h1
    obtain ⟨a, ys, rfl, ha, sa, da⟩ := h1
    refine ⟨a, ys, rfl, .inl ⟨SqL.of ha, fun l hl => k _ _ _ (same_upd hl) ?_ hf⟩⟩
    simp only [Dn]
    exact ⟨l, ys, rfl, upd_same, Dns.fits (.same (same_upd hl)) _ _ da⟩
  | [.tup es], hf =>
    obtain ⟨v, r, rfl, h1, h2⟩ := hd.uncons
    simp only [Dns] at h2
    subst h2
    have h1' := h1
    simp only [Dn] at h1
    obtain ⟨a, ys, rfl, ha, da⟩ := h1
    exact ⟨a, ys, rfl, .inr ⟨(SqT.of ha), k _ H _ (Same.refl H) h1' hf⟩⟩
theorem tuple3 {p pos : Pos} {e : Expr} {t : WA} (hm : X.mg "tuple" = none) (hv : bootBuiltins "tuple" = some (.type "tuple")) (ha : PA3 X [e] t) (hg : Gl X "tuple" := by rfl)
    (he : starEach [e] X.env = (false, eval e X.env) :: starEach [] X.env := by rfl) : PE3 X (.Call (.Name "tuple" p) [e] [] pos) (wCB tupleF t) := callTy3 call_tuple_of c3_tuple hv hg hm ha (by decide) (by decide) he (by rfl)
noncomputable abbrev Spec := List D → (D → Prop) → Prop
noncomputable def sp3 (K : PySem.W.Frag) (R : Spec) : Sp := fun vs H Q _ => ∃ (S : Addr → Prop) (ds : List D) (Q3 : D → Prop), (∀ a, H a = none → S a) ∧ Dns K S H ds vs ∧ R ds Q3 ∧ ∀ v H' d, Same H H' → Dn K S H' d v → Q3 d → Q v H'
theorem call3 {k : Nat} {f : Addr} {fd : FuncData} {ps : List Str} {R : Spec} {x : Str} {p pos : Pos} {e : Expr} {es : List Expr} {t : WA} (F : FnOk X.prog X.w X.K X.mg X.base CX0 k f fd ps (sp3 X.K R)) (hr : Room k X.A) (hm : X.mg x = some (.ref f)) (hk : PySem.W.keepIn X.K (.ref f) = true) (hb : Binds X.K fd ps [])
    (ha : PA3 X (e :: es) t) (hg : Gl X x := by rfl) (hdb : (x == ("__debug__" : Str)) = false := by decide) (he : starEach (e :: es) X.env = (false, eval e X.env) :: starEach es X.env := by rfl) (hpl : (backTo pos (starEach es X.env)).any (·.1) = false := by rfl) :
    PE3 X (.Call (.Name x p) (e :: es) [] pos) (wCB R t) := imp (pe_call F hr hg hm hk hb .nil pass0 ha hdb he hpl) fun σ H Q hq19 => by
  obtain ⟨S, ρ, Q3, fc, sl, ht, k⟩ := hq19
  refine ⟨S, ρ, _, fc, sl, ht, fun vs H1 ds s1 d1 q1 => ?_⟩
  show sp3 X.K R (vs ++ []) H1 Q E0
  rw [List.append_nil]
  exact ⟨S, ds, Q3, fc_same fc s1, d1, q1, fun v H' d s' d' q' => k v H' d (s1.trans s') d' q'⟩
end
end L3
end
section
set_option Elab.async false
set_option linter.all false
set_option maxRecDepth 100000
set_option maxHeartbeats 3999999
namespace L3
open PySem PySem.Spec PyProof.Rows L2
structure DE where
  nx : SEnv → Prop
  rt : D → Prop
  bk : SEnv → Prop := fun _ => False
  ct : SEnv → Prop := fun _ => False
  ex : Str → Prop := fun _ => False
noncomputable abbrev WS := DE → SEnv → Prop
structure Thrown (X : Cx) (pins : List (Addr × Obj)) (H : Hp) (s : Shared) (e : Addr) (cls a0 : Value) (P : List Addr) : Prop where
  mem : e ∈ P
  free : ∀ q ∈ P, H q = none
  new : ∀ q ∈ P, X.s₀.heap.get? q = none
  fld : ∀ q ∈ P, ∃ o vs, s.heap.get? q = some o ∧ o.data = .fields vs
  pin : ∀ q ∈ P, ∀ p ∈ X.pn ++ pins, p.1 ≠ q
  tr : (∃ oe vs, s.heap.get? e = some oe ∧ oe.cls = cls ∧ oe.data = .fields vs ∧ vs[1]? = some .none ∧ vs[0]? = some a0) ∨
    (∃ oe vs T oT ts, s.heap.get? e = some oe ∧ (oe.cls = cls ∧ vs[0]? = some a0) ∧ oe.data = .fields vs ∧ vs[1]? = some (.ref T) ∧ T ∈ P ∧ T ≠ e ∧ s.heap.get? T = some oT ∧ oT.data = .fields ts ∧ ts[3]? = some .none)
noncomputable def XC (X : Cx) (c : Str) (H : Hp) : Prop := ∃ C : Addr, X.mg c = some (.ref C) ∧ ∀ (pins : List (Addr × Obj)) (σ : L2.St) (s : Shared) (e : Addr) (a0 : Value) (P : List Addr), Inv X pins σ H s → Thrown X pins H s e (.ref C) a0 P → X.xe (.ref e) s
structure EndsOk (K : PySem.W.Frag) (xc : Str → Hp → Prop) (n : Nat) (H₀ : Hp) (S : Addr → Prop) (G : List (D × V)) (E : DE) (B : Ends) : Prop where
  nx : ∀ w σ H ρ, σ.length = n → ST K H₀ S w σ H ρ G → E.nx ρ → B.nx σ H
  rt : ∀ v H d, Same H₀ H → Dn K S H d v → E.rt d → B.rt v H
  bk : ∀ w σ H ρ, σ.length = n → ST K H₀ S w σ H ρ G → E.bk ρ → B.bk σ H
  ct : ∀ w σ H ρ, σ.length = n → ST K H₀ S w σ H ρ G → E.ct ρ → B.ct σ H
  ex : ∀ c H, Same H₀ H → E.ex c → xc c H
noncomputable def liftS (K : PySem.W.Frag) (xc : Str → Hp → Prop) (n : Nat) (t : WS) : TS := fun B σ H => ∃ (H₀ : Hp) (S : Addr → Prop) (w : Nat → Addr) (ρ : SEnv) (G : List (D × V)) (E : DE), σ.length = n ∧ ST K H₀ S w σ H ρ G ∧ t E ρ ∧ EndsOk K xc n H₀ S G E B
noncomputable def PS3 (X : Cx) (st : Stmt) (t : WS) : Prop := PS X st (liftS X.K (XC X) X.N.length t)
noncomputable def PSs3 (X : Cx) (st : List Stmt) (t : WS) : Prop := PSs X st (liftS X.K (XC X) X.N.length t)
section
variable {X : Cx}
theorem impS {e : Stmt} {t t' : TS} (h : PS X e t) (f : ∀ B σ H, t' B σ H → t B σ H) : PS X e t' := fun pins s σ H B I q => h pins s σ H B I (f B σ H q)
theorem impSs {e : List Stmt} {t t' : TS} (h : PSs X e t) (f : ∀ B σ H, t' B σ H → t B σ H) : PSs X e t' := fun pins s σ H B I q => h pins s σ H B I (f B σ H q)
noncomputable def wNext : WS := fun E ρ => E.nx ρ
noncomputable def wSeq (t u : WS) : WS := fun E ρ => t { E with nx := u E } ρ
theorem end3 : PSs3 X [] wNext := impSs pss_nil fun B σ H hq20 => by obtain ⟨H₀, S, w, ρ, G, E, hl, st, ht, ok⟩ := hq20; exact ok.nx w σ H ρ hl st ht
theorem seq3 {st : Stmt} {rest : List Stmt} {t u : WS} (h1 : PS3 X st t) (h2 : PSs3 X rest u) : PSs3 X (st :: rest) (wSeq t u) := impSs (pss_cons h1 h2) fun B σ H hq21 => by
 obtain ⟨H₀, S, w, ρ, G, E, hl, sT, ht, ok⟩ := hq21
 exact ⟨H₀, S, w, ρ, G, { E with nx := u E }, hl, sT, ht, ⟨fun w' σ' H' ρ' hl' st' q => ⟨H₀, S, w', ρ', G, E, hl', st', q, ok⟩, ok.rt, ok.bk, ok.ct, ok.ex⟩⟩
theorem last3 {st : Stmt} {t : WS} (h1 : PS3 X st t) : PSs3 X [st] t := impSs (pss_one h1) fun _ _ _ h => h
noncomputable def wRet (t : WE) : WS := fun E ρ => t (vAll ρ) E.rt
theorem ret3 {e : Expr} {t : WE} {pos : Pos} (h : PE3 X e t) : PS3 X (.Return (some e) pos) (wRet t) := impS (ps_ret h) fun B σ H hq22 => by
 obtain ⟨H₀, S, w, ρ, G, E, hl, st, ht, ok⟩ := hq22
 exact ⟨S, vAll ρ, E.rt, st.fcH, st.all, ht, fun v H' d s' d' q' => ok.rt v H' d (st.sm.trans s') d' q'⟩
noncomputable def wIfS (c : WT) (t u : WS) : WS := fun E ρ => c (vAll ρ) fun b => if b = true then t E ρ else u E ρ
theorem ifS3 {c : Expr} {a b : List Stmt} {pos : Pos} {tc : WT} {t u : WS} (hc : PT3 X c tc) (ha : PSs3 X a t) (hb : PSs3 X b u) : PS3 X (.If c a b pos) (wIfS tc t u) := impS (ps_if hc ha hb) fun B σ H hq23 => by
  obtain ⟨H₀, S, w, ρ, G, E, hl, st, ht, ok⟩ := hq23
  refine ⟨S, vAll ρ, _, st.fcH, st.all, ht, fun d H1 s1 q1 => ?_⟩
  cases d with
  | true => rw [if_pos rfl] at q1 ⊢; exact ⟨H₀, S, w, ρ, G, E, hl, st.same s1, q1, ok⟩
  | false => rw [if_neg Bool.false_ne_true] at q1 ⊢; exact ⟨H₀, S, w, ρ, G, E, hl, st.same s1, q1, ok⟩
noncomputable def wSet (i : Nat) (t : WE) : WS := fun E ρ => t (vRd ρ) fun d => E.nx (ρ.set i (.ro d))
noncomputable def wOwn (i : Nat) (t : WE) : WS := fun E ρ => t (vRd ρ) fun d => E.nx (ρ.set i (.ow d))
section
variable {i : Nat} {x : Str} {e : Expr} {t : WE} {pos pos' : Pos}
theorem ix_lt {N : List Str} {i : Nat} {x : Str} (h : N[i]? = some x) : i < N.length := (List.getElem?_eq_some_iff.mp h).1
theorem set3 (hN : X.N.Nodup) (he : PE3 X e t) (hi : X.N[i]? = some x := by rfl) (hx : Loc X.env.scope x := by first | exact .inl rfl | exact .inr rfl) (hs : swapsWith e (some (.Name x pos')) pos.line X.env = pure false := by rfl) (hf : X.fn x = true ∨ X.env.scope.names.lookup x = some .local := by first | exact .inl rfl | exact .inr rfl) :
    PS3 X (.Assign [.Name x pos'] e pos) (wSet i t) := impS (ps_set hN hi hx he hs hf) fun B σ H hq24 => by
 obtain ⟨H₀, S, w, ρ, G, E, hl, st, ht, ok⟩ := hq24
 exact ⟨_, vRd ρ, _, st.fcO, st.rd, ht, fun v H' d s' d' q' => ok.nx w _ H' _ (by rw [List.length_set]; exact hl) ((st.same s').set_ro (by rw [hl]; exact ix_lt hi) d') q'⟩
theorem own3 (hN : X.N.Nodup) (he : PF3 X e t) (hi : X.N[i]? = some x := by rfl) (hx : Loc X.env.scope x := by first | exact .inl rfl | exact .inr rfl) (hs : swapsWith e (some (.Name x pos')) pos.line X.env = pure false := by rfl) (hf : X.fn x = true ∨ X.env.scope.names.lookup x = some .local := by first | exact .inl rfl | exact .inr rfl) :
    PS3 X (.Assign [.Name x pos'] e pos) (wOwn i t) := impS (ps_set hN hi hx he hs hf) fun B σ H hq25 => by
 obtain ⟨H₀, S, w, ρ, G, E, hl, st, ht, ok⟩ := hq25
 exact ⟨_, vRd ρ, _, st.fcO, st.rd, ht, fun p xs H' ds hp hp' s' d' q' => ok.nx _ _ H' _ (by rw [List.length_set]; exact hl) (st.set_ow (d := .lst ds) (by rw [hl]; exact ix_lt hi) s' hp ⟨xs, hp', d'⟩) q'⟩
end
noncomputable def start3 (N : List Str) (ds : List D) : SEnv := ds.map Sv.ro ++ List.replicate (N.length - ds.length) Sv.no
theorem start_st {K : PySem.W.Frag} {H : Hp} {S : Addr → Prop} {N : List Str} {ds : List D} {vs : List V} (fc : ∀ a, H a = none → S a) (h : Dns K S H ds vs) : ST K H S (fun _ => 0) (L2.start N vs) H (start3 N ds) [] := by
  have no : ∀ (i : Nat) (d : D), (start3 N ds)[i]? ≠ some (Sv.ow d) := fun i d e => by
    unfold start3 at e
    by_cases hi : i < ds.length
    · rw [List.getElem?_append_left (by simpa using hi), List.getElem?_map] at e
      cases q : ds[i]? with
      | none => rw [q] at e; cases e
      | some a => rw [q] at e; cases e
    · rw [List.getElem?_append_right (by simpa using hi), List.getElem?_replicate] at e
      split at e <;> cases e
  have so : ∀ a, S a → SO S (fun _ => 0) (start3 N ds) a := fun a s => ⟨s, fun i d e => absurd e (no i d)⟩
  refine ⟨fc, Same.refl H, fun i d e => absurd e (no i d), fun i j d e h1 => absurd h1 (no i d), fun i d e => ?_, fun g hg => nomatch hg⟩
  unfold start3 at e
  by_cases hi : i < ds.length
  · rw [List.getElem?_append_left (by simpa using hi), List.getElem?_map] at e
    cases q : ds[i]? with
    | none => rw [q] at e; cases e
    | some a =>
      rw [q] at e
      cases e
      obtain ⟨v, e1, dv⟩ := h.get q
      refine ⟨v, ?_, Dn.fits (.mono so) _ _ dv⟩
      unfold L2.start
      have hv : i < vs.length := (List.getElem?_eq_some_iff.mp e1).1
      rw [List.getElem?_append_left (by simpa using hv), List.getElem?_map, e1]
      rfl
  · rw [List.getElem?_append_right (by simpa using hi), List.getElem?_replicate] at e
    split at e <;> cases e
theorem fun3 {P : Program} {w : World} {K : PySem.W.Frag} {mg : Str → Option Value} {base : Heap} {x qual : Str} {st : Stmt} {f : Addr} {fd : FuncData} {N ps : List Str} {k : Nat} {R : Spec} (F : Fun K x qual st f fd) (S : FnScope N ps (defScope st)) (len : ∀ ds Q, R ds Q → ds.length = ps.length)
    (hbody : ∀ (cdv : Value) (A : Around) (outer : List Env) (s : Shared) (H : Hp) (E : XK), Room k (A.deeper (envOfC qual (defScope st) s.heap.objs.size f cdv)) →
      ∃ t : WS, PSs3 (cxOf CX0 P w K mg base N qual (defScope st) f cdv A outer s H E).nox (defBody st) t ∧ ∀ ds Q, R ds Q → t { nx := fun _ => Q .non, rt := Q } (start3 N ds)) : FnOk P w K mg base CX0 (k + 1) f fd ps (sp3 K R) := by
  refine F.ok S (fun vs H Q E h => ?_) fun cdv A outer s H vs Q E hr h => ?_
  · obtain ⟨S', ds, Q3, fc, dn, r, _⟩ := h
    rw [← dn.len]
    exact len ds Q3 r
  · obtain ⟨t, ht, hq⟩ := hbody cdv A outer s H E hr
    obtain ⟨S', ds, Q3, fc, dn, r, kk⟩ := h
    refine ⟨_, ht, H, S', fun _ => 0, start3 N ds, [], { nx := fun _ => Q3 .non, rt := Q3 }, ?_, start_st fc dn, hq ds Q3 r, ⟨fun w' σ' H' ρ' _ st' q => ?_, fun v H' d s' d' q => kk v H' d s' d' q, fun _ _ _ _ _ _ q => q, fun _ _ _ _ _ _ q => q, fun _ _ _ q => q.elim⟩⟩
    · have hl := len ds Q3 r
      have hl2 := dn.len
      have hp : ps.length ≤ N.length := by have := congrArg List.length S.pre; rw [List.length_take] at this; omega
      unfold L2.start
      show _ = N.length
      rw [List.length_append, List.length_map, List.length_replicate]
      omega
    · exact kk .non H' .non st'.sm (by simp only [Dn]) q
end
end L3
end
section
set_option Elab.async false
set_option linter.all false
set_option maxRecDepth 100000
set_option maxHeartbeats 3999999
namespace L3
open PySem PySem.Spec PyProof.Rows L2
noncomputable abbrev WX := SEnv → (SEnv → D → Prop) → Prop
noncomputable def liftX (K : PySem.W.Frag) (n : Nat) (t : WX) : TE := fun σ H Q => ∃ (H₀ : Hp) (S : Addr → Prop) (w : Nat → Addr) (ρ : SEnv) (G : List (D × V)) (Q3 : SEnv → D → Prop), σ.length = n ∧ ST K H₀ S w σ H ρ G ∧ t ρ Q3 ∧
  ∀ w' v H' ρ' d, ST K H₀ S w' σ H' ρ' G → Dn K (SO S w' ρ') H' d v → Q3 ρ' d → Q v H'
noncomputable def PX3 (X : Cx) (e : Expr) (t : WX) : Prop := PE X e (liftX X.K X.N.length t)
noncomputable def wPure (t : WE) : WX := fun ρ Q => t (vAll ρ) fun d => d.imm = true ∧ Q ρ d
noncomputable def wPureR (t : WE) : WX := fun ρ Q => t (vRd ρ) fun d => Q ρ d
section
variable {X : Cx}
theorem px3 {e : Expr} {t : WE} (h : PE3 X e t) : PX3 X e (wPure t) := imp h fun σ H Q hq26 => by
 obtain ⟨H₀, S, w, ρ, G, Q3, hl, st, ht, k⟩ := hq26
 exact ⟨S, vAll ρ, _, st.fcH, st.all, ht, fun v H' d s' d' q' => k w v H' ρ d (st.same s') (Dn.imm q'.1 d') q'.2⟩
theorem pxr3 {e : Expr} {t : WE} (h : PE3 X e t) : PX3 X e (wPureR t) := imp h fun σ H Q hq27 => by
 obtain ⟨H₀, S, w, ρ, G, Q3, hl, st, ht, k⟩ := hq27
 exact ⟨_, vRd ρ, _, st.fcO, st.rd, ht, fun v H' d s' d' q' => k w v H' ρ d (st.same s') d' q'⟩
noncomputable def wSetX (i : Nat) (t : WX) : WS := fun E ρ => t ρ fun ρ' d => E.nx (ρ'.set i (.ro d))
theorem setX3 {i : Nat} {x : Str} {e : Expr} {t : WX} {pos pos' : Pos} (hN : X.N.Nodup) (he : PX3 X e t) (hi : X.N[i]? = some x := by rfl) (hx : Loc X.env.scope x := by first | exact .inl rfl | exact .inr rfl) (hs : swapsWith e (some (.Name x pos')) pos.line X.env = pure false := by rfl) (hf : X.fn x = true ∨ X.env.scope.names.lookup x = some .local := by first | exact .inl rfl | exact .inr rfl) :
    PS3 X (.Assign [.Name x pos'] e pos) (wSetX i t) := impS (ps_set hN hi hx he hs hf) fun B σ H hq28 => by
 obtain ⟨H₀, S, w, ρ, G, E, hl, st, ht, ok⟩ := hq28
 exact ⟨H₀, S, w, ρ, G, _, hl, st, ht, fun w' v H' ρ' d st' d' q' => ok.nx w' _ H' _ (by rw [List.length_set]; exact hl) (st'.set_ro (by rw [hl]; exact ix_lt hi) d') q'⟩
noncomputable def wDrop (t : WX) : WS := fun E ρ => t ρ fun ρ' _ => E.nx ρ'
theorem expr3 {e : Expr} {t : WX} {pos : Pos} (he : PX3 X e t) (hs : swapsWith e none pos.line X.env = pure false := by rfl) : PS3 X (.Expr e pos) (wDrop t) := impS (ps_expr he hs) fun B σ H hq29 => by
 obtain ⟨H₀, S, w, ρ, G, E, hl, st, ht, ok⟩ := hq29
 exact ⟨H₀, S, w, ρ, G, _, hl, st, ht, fun w' v H' ρ' d st' d' q' => ok.nx w' _ H' _ hl st' q'⟩
noncomputable def wM1 (i : Nat) (f : List D → D → (List D → D → Prop) → Prop) (t : WX) : WX := fun ρ Q => (match ρ[i]? with | some (.ow (.lst _)) => True | _ => False) ∧ t ρ fun ρ' d => match ρ'[i]? with
  | some (.ow (.lst ds)) => f ds d fun ds' r => Q (ρ'.set i (.ow (.lst ds'))) r
  | _ => False
noncomputable def M3 (K : PySem.W.Frag) (r : V → List V → Hp → VK → Prop) (f : List D → D → (List D → D → Prop) → Prop) : Prop := ∀ (S : Addr → Prop) (H : Hp) (p : Addr) (xs : List V) (ds : List D) (y : V) (d : D) (Q3 : List D → D → Prop) (Q : VK),
  H p = some (.lst xs) → Dns K S H ds xs → Dn K S H d y → f ds d Q3 → (∀ ys ds' v d', Dns K S H ds' ys → Dn K S H d' v → Q3 ds' d' → Q v (upd H p (.lst ys))) → r (.ref p) [y] H Q
theorem lift_m1 {K : PySem.W.Frag} {n i : Nat} {r : V → List V → Hp → VK → Prop} {f : List D → D → (List D → D → Prop) → Prop} {t : WX} {σ : L2.St} {H : Hp} {Q : VK} (h3 : M3 K r f) (h : liftX K n (wM1 i f t) σ H Q) :
    tBM K "list" r (tVar i) (tCons (liftX K n t) tNil) σ H Q := by
  obtain ⟨H₀, S, w, ρ, G, Q3, hl, st, ⟨h0, ht⟩, k⟩ := h
  split at h0
  · rename_i ds e
    obtain ⟨a, b, c⟩ := st.own i _ e
    obtain ⟨xs, hp, dn⟩ := c
    refine ⟨_, a, .inl ⟨rfl, xs, SqL.of hp⟩, H₀, S, w, ρ, G, _, hl, st, ht, fun w' v H' ρ' d st' d' q' => ?_⟩
    split at q'
    · rename_i ds' e'
      obtain ⟨a', b', c'⟩ := st'.own i _ e'
      obtain ⟨xs', hp', dn'⟩ := c'
      have ew : w i = w' i := by
        have z := a.symm.trans a'
        have z1 := Option.some.inj (Option.some.inj z)
        injection z1
      rw [ew]
      refine h3 _ H' (w' i) xs' ds' v d _ Q hp' dn' d' q' fun ys ds2 v2 d2 dn2 dv2 q2 => ?_
      have nS : ¬ SO S w' ρ' (w' i) := fun ⟨_, z⟩ => z i _ e' rfl
      have F : Fits K (SO S w' ρ') (SO S w' ρ') H' (upd H' (w' i) (.lst ys)) := .upd (.inl ⟨_, hp'⟩) nS
      have so : ∀ a, SO S w' ρ' a → SO S w' (ρ'.set i (.ow (.lst ds2))) a := SO.mono fun j f hf => by
        rcases get_set hf with ⟨hj, _, _⟩ | ⟨_, z⟩
        · subst hj; exact ⟨_, e'⟩
        · exact ⟨_, z⟩
      exact k w' v2 _ _ d2 (st'.write (d' := .lst ds2) e' ⟨ys, upd_same, Dns.fits F _ _ dn2⟩) (Dn.fits (F.trans (.mono so)) _ _ dv2) q2
    · exact q'.elim
  · exact h0.elim
theorem m1 {i : Nat} {x : Str} {id : String} {name : Str} {e : Expr} {p apos cpos : Pos} {r : V → List V → Hp → VK → Prop} {f : List D → D → (List D → D → Prop) → Prop} {t : WX} (slot : Slot "list" name id) (hty : typeOf (.builtin id) = pure (.type "method_descriptor")) (hm : MtR X id r) (h3 : M3 X.K r f) (he : PX3 X e t)
    (hN : X.N[i]? = some x := by rfl) (hv : Vis X.env.scope x := by first | exact Or.inl rfl | exact Or.inr (Or.inl rfl) | exact Or.inr (Or.inr rfl)) (hd : (x == ("__debug__" : Str)) = false := by decide) (hcd : (x == ("__classdict__" : Str)) = false := by decide)
    (hbase : attributeBase (.Name x p) name X.env (eval (.Name x p) X.env) = eval (.Name x p) X.env := by rfl)
    (hfew : ((backTo cpos (starEach [e] X.env)).all (fun x => !x.1) && (backToKw cpos (keywordEach [] X.env)).all (fun x => x.1.isSome)
      && decide ([e].length + ([] : List Keyword).length + (if ([] : List Keyword).isEmpty then 0 else 1) < 30)) = true := by rfl)
    (hline : (apos.endLine == cpos.line) = true := by rfl) (hs : starEach [e] X.env = (false, eval e X.env) :: starEach [] X.env := by rfl) :
    PX3 X (.Call (.Attribute (.Name x p) name apos) [e] [] cpos) (wM1 i f t) :=
  imp (pe_bm PySem.F.plainAttrs_list slot hty hm (pe_var hN hv hd hcd) (pa_cons he pa_nil hs) hbase hfew hline hs (by rfl)) fun _ _ _ h => lift_m1 h3 h
noncomputable def appF : List D → D → (List D → D → Prop) → Prop := fun ds d Q => ds.length < sizeLine ∧ Q (ds ++ [d]) .non
theorem m3_app {K : PySem.W.Frag} : M3 K rAppend appF := by
  intro S H p xs ds y d Q3 Q hp dn dy hf k
  exact ⟨p, xs, y, rfl, rfl, hp, by rw [← dn.len]; exact hf.1, k _ _ _ _ (dn.append (Dns.one dy)) (by simp only [Dn]) hf.2⟩
noncomputable def popF : List D → D → (List D → D → Prop) → Prop
  | ds, .int k, Q => (-(2 ^ 63) ≤ k ∧ k < 2 ^ 63) ∧ (match ixN ds.length k with | some j => (match ds[j]? with | some d => Q (ds.eraseIdx j) d | none => False) | none => False)
  | _, _, _ => False
theorem m3_pop {K : PySem.W.Frag} : M3 K rPopAt popF := by
  intro S H p xs ds y d Q3 Q hp dn dy hf k
  cases d with
  | int i =>
    simp only [Dn] at dy
    subst dy
    obtain ⟨⟨h1, h2⟩, hf⟩ := hf
    split at hf
    · rename_i j ej
      split at hf
      · rename_i dd ed
        obtain ⟨v, ev, dv⟩ := dn.get ed
        obtain ⟨g1, _⟩ := ixN_seq ej
        exact ⟨p, xs, i, j, v, rfl, rfl, hp, h1, h2, by rw [← dn.len]; exact g1, ev, k _ _ _ _ (dn.erase j) dv hf⟩
      · exact hf.elim
    · exact hf.elim
  | _ => exact hf.elim
section
variable {i : Nat} {x : Str} {e : Expr} {p apos cpos : Pos} {t : WX}
theorem app3 (he : PX3 X e t) (hN : X.N[i]? = some x := by rfl) (hv : Vis X.env.scope x := by first | exact Or.inl rfl | exact Or.inr (Or.inl rfl) | exact Or.inr (Or.inr rfl)) (hd : (x == ("__debug__" : Str)) = false := by decide) (hcd : (x == ("__classdict__" : Str)) = false := by decide)
    (hbase : attributeBase (.Name x p) "append" X.env (eval (.Name x p) X.env) = eval (.Name x p) X.env := by rfl)
    (hfew : ((backTo cpos (starEach [e] X.env)).all (fun x => !x.1) && (backToKw cpos (keywordEach [] X.env)).all (fun x => x.1.isSome)
      && decide ([e].length + ([] : List Keyword).length + (if ([] : List Keyword).isEmpty then 0 else 1) < 30)) = true := by rfl)
    (hline : (apos.endLine == cpos.line) = true := by rfl) (hs : starEach [e] X.env = (false, eval e X.env) :: starEach [] X.env := by rfl) :
    PX3 X (.Call (.Attribute (.Name x p) "append" apos) [e] [] cpos) (wM1 i appF t) := m1 PySem.F.slot_list_append PySem.F.type_list_append mt_append m3_app he hN hv hd hcd hbase hfew hline hs
theorem pop3 (he : PX3 X e t) (hN : X.N[i]? = some x := by rfl) (hv : Vis X.env.scope x := by first | exact Or.inl rfl | exact Or.inr (Or.inl rfl) | exact Or.inr (Or.inr rfl)) (hd : (x == ("__debug__" : Str)) = false := by decide) (hcd : (x == ("__classdict__" : Str)) = false := by decide)
    (hbase : attributeBase (.Name x p) "pop" X.env (eval (.Name x p) X.env) = eval (.Name x p) X.env := by rfl)
    (hfew : ((backTo cpos (starEach [e] X.env)).all (fun x => !x.1) && (backToKw cpos (keywordEach [] X.env)).all (fun x => x.1.isSome)
      && decide ([e].length + ([] : List Keyword).length + (if ([] : List Keyword).isEmpty then 0 else 1) < 30)) = true := by rfl)
    (hline : (apos.endLine == cpos.line) = true := by rfl) (hs : starEach [e] X.env = (false, eval e X.env) :: starEach [] X.env := by rfl) :
    PX3 X (.Call (.Attribute (.Name x p) "pop" apos) [e] [] cpos) (wM1 i popF t) := m1 PySem.F.slot_list_pop PySem.F.type_list_pop mt_popAt m3_pop he hN hv hd hcd hbase hfew hline hs
end
noncomputable def isOw (ρ : SEnv) (i : Nat) : Prop := match ρ[i]? with
  | some (.ow (.lst _)) => True
  | _ => False
noncomputable def wPut (i : Nat) (t : WX) (tk : WE) : WS := fun E ρ => t ρ fun ρ' d => isOw ρ' i ∧ tk (vAll ρ') fun k => match ρ'[i]?, k with
  | some (.ow (.lst ds)), .int k => (match ixN ds.length k with | some j => E.nx (ρ'.set i (.ow (.lst (ds.set j d)))) | none => False)
  | _, _ => False
theorem put3 {i : Nat} {x : Str} {e k : Expr} {t : WX} {tk : WE} {pos pos' p : Pos} (he : PX3 X e t) (hk : PE3 X k tk)
    (hN : X.N[i]? = some x := by rfl) (hv : Vis X.env.scope x := by first | exact Or.inl rfl | exact Or.inr (Or.inl rfl) | exact Or.inr (Or.inr rfl)) (hd : (x == ("__debug__" : Str)) = false := by decide) (hcd : (x == ("__classdict__" : Str)) = false := by decide)
    (ha : ∀ v, assign (.Subscript (.Name x p) k pos') X.env v = (do
      let ov ← holding [v] (eval (.Name x p) X.env)
      let iv ← holding [v, ov] (eval k X.env)
      standAt pos'
      holding [v, ov, iv] (setItem ov iv v)
      release [v, ov, iv] []) := by intro _; rfl)
    (hs : swapsWithSole [.Subscript (.Name x p) k pos'] e pos.line X.env = pure false := by rfl) (hw : swappedStores [.Subscript (.Name x p) k pos'] e X.env = pure none := by rfl)
    (h1 : (assignEach [.Subscript (.Name x p) k pos'] X.env).map (·.2) = [assign (.Subscript (.Name x p) k pos') X.env] := by rfl) :
    PS3 X (.Assign [.Subscript (.Name x p) k pos'] e pos) (wPut i t tk) := impS (ps_asg he (pg_sub (pe_var hN hv hd hcd) hk set_list ha) hs hw h1) fun B σ H hq30 => by
  obtain ⟨H₀, S, w, ρ, G, E, hl, st, ht, ok⟩ := hq30
  refine ⟨H₀, S, w, ρ, G, _, hl, st, ht, fun w' v H' ρ' d st' d' q' => ?_⟩
  obtain ⟨q0, q'⟩ := q'
  unfold isOw at q0
  split at q0
  · rename_i ds0 e0
    obtain ⟨a0, _, _⟩ := st'.own i _ e0
    refine ⟨_, a0, S, vAll ρ', _, st'.fcH, st'.all, q', fun kv H2 dk s2 dk2 q2 => ?_⟩
    split at q2
    · rename_i ds k' e1
      simp only [Dn] at dk2
      split at q2
      · rename_i j ej
        have st2 := st'.same s2
        obtain ⟨a, b, c⟩ := st2.own i _ e1
        obtain ⟨xs, hp, dn⟩ := c
        have nS : ¬ SO S w' ρ' (w' i) := fun ⟨_, z⟩ => z i _ e1 rfl
        have F : Fits X.K (SO S w' ρ') (SO S w' ρ') H2 (upd H2 (w' i) (.lst (xs.set j v))) := .upd (.inl ⟨_, hp⟩) nS
        exact ⟨w' i, xs, k', j, rfl, dk2, hp, by rw [← dn.len]; exact ej, ok.nx w' σ _ _ hl (st2.write (d' := .lst (ds.set j d)) e1 ⟨_, upd_same, Dns.fits F _ _ (dn.set j (Dn.fits (.same s2) _ _ d'))⟩) q2⟩
      · exact q2.elim
    · exact q2.elim
  · exact q0.elim
end
end L3
end
section
set_option Elab.async false
set_option linter.all false
set_option maxRecDepth 100000
set_option maxHeartbeats 3999999
namespace L3
open PySem PySem.Spec PyProof.Rows L2
structure Wlk (K : PySem.W.Frag) (J : It) (ds : List D) (G : List (D × V)) : Prop where
  go : ∀ (S : Addr → Prop) (H : Hp), (∀ a, H a = none → S a) → (∀ g ∈ G, Dn K S H g.1 g.2) → ∀ (i : Nat) (d : D), ds[i]? = some d → J.go i H ∧ ∀ x H', J.yld i H x H' → Same H H' ∧ Dn K S H' d x
  stop : ∀ (S : Addr → Prop) (H : Hp), (∀ g ∈ G, Dn K S H g.1 g.2) → ∀ i : Nat, ds.length = i → J.stop i H
noncomputable abbrev WI := DEnv → (List D → Prop) → Prop
noncomputable def liftI (K : PySem.W.Frag) (t : WI) : TI := fun σ H R => ∃ (S : Addr → Prop) (ρ : DEnv) (Q3 : List D → Prop), (∀ a, H a = none → S a) ∧ Sl K S H ρ σ ∧ t ρ Q3 ∧
  ∀ J H' ds G, Same H H' → (∀ g ∈ G, Dn K S H' g.1 g.2) → Wlk K J ds G → Q3 ds → R J H'
noncomputable def PI3 (X : Cx) (tg iter : Expr) (t : WI) : Prop := PI X tg iter (liftI X.K t)
section
variable {X : Cx} {tg : Expr}
theorem impI {e : Expr} {t t' : TI} (h : PI X tg e t) (f : ∀ σ H R, t' σ H R → t σ H R) : PI X tg e t' := fun pins s σ H R I q => h pins s σ H R I (f σ H R q)
noncomputable def wWalk (t : WE) : WI := fun ρ Q => t ρ fun d => match d with
  | .lst ds => Q ds
  | .tup ds => Q ds
  | _ => False
theorem wlk_list {K : PySem.W.Frag} {a : Addr} {ds : List D} : Wlk K (Itl K a) ds [(.lst ds, .ref a)] where
  go := fun S H fc hg i d e => by
    have h := hg _ (List.mem_singleton.mpr rfl)
    simp only [Dn] at h
    obtain ⟨b, xs, eb, hb, sb, dn⟩ := h
    injection eb with eb
    subst eb
    obtain ⟨v, ev, dv⟩ := dn.get e
    refine ⟨⟨xs, v, SqL.of hb, ev⟩, fun x H' y => ?_⟩
    obtain ⟨e1, y⟩ := y
    subst e1
    have ex := y xs (SqL.of hb)
    rw [ev] at ex
    cases ex
    exact ⟨Same.refl _, dv⟩
  stop := fun S H hg i hi => by
    have h := hg _ (List.mem_singleton.mpr rfl)
    simp only [Dn] at h
    obtain ⟨b, xs, eb, hb, sb, dn⟩ := h
    injection eb with eb
    subst eb
    exact ⟨xs, SqL.of hb, by rw [← dn.len]; exact Nat.le_of_eq hi⟩
theorem wlk_tup {K : PySem.W.Frag} {a : Addr} {ds : List D} : Wlk K (Itt K a) ds [(.tup ds, .ref a)] where
  go := fun S H fc hg i d e => by
    have h := hg _ (List.mem_singleton.mpr rfl)
    simp only [Dn] at h
    obtain ⟨b, xs, eb, hb, dn⟩ := h
    injection eb with eb
    subst eb
    obtain ⟨v, ev, dv⟩ := dn.get e
    refine ⟨⟨xs, v, (SqT.of hb), ev⟩, fun x H' y => ?_⟩
    obtain ⟨e1, y⟩ := y
    subst e1
    have ex := y xs (SqT.of hb)
    rw [ev] at ex
    cases ex
    exact ⟨Same.refl _, dv⟩
  stop := fun S H hg i hi => by
    have h := hg _ (List.mem_singleton.mpr rfl)
    simp only [Dn] at h
    obtain ⟨b, xs, eb, hb, dn⟩ := h
    injection eb with eb
    subst eb
    exact ⟨xs, (SqT.of hb), by rw [← dn.len]; exact Nat.le_of_eq hi⟩
theorem pi_seq {l : Expr} {tl : TE} (hl : PE X l tl) : PI X tg l (fun σ H R => tl σ H fun x H1 => ∃ a, x = .ref a ∧ (((∃ xs, SqL X.K H1 a xs) ∧ R (Itl X.K a) H1) ∨ ((∃ xs, SqT X.K H1 a xs) ∧ R (Itt X.K a) H1))) := by
  intro pins s σ H R I h
  refine thn (hl pins s σ H _ I h) fun v s1 hq31 => ?_
  obtain ⟨x, H1, I1, r1, q1⟩ := hq31
  obtain ⟨a, e, q⟩ := q1
  subst e
  cases r1
  rcases q with ⟨⟨xs, hq⟩, q⟩ | ⟨⟨xs, hq⟩, q⟩
  · obtain ⟨its, rv, p, hz⟩ := I1.list hq
    refine wpAny_pyIter_list p.isList ?_
    refine ⟨s1.heap.objs.size, [s1.heap.objs.size], _, _, H1, rfl, I1.kept (t' := s1.toks) fun b o e => Heap.get?_push_of_some _ e, turn_list a _, ⟨_, Heap.get?_push_size _ rfl, rfl, rfl⟩, fun b hb => ?_, q⟩
    have e : b = s1.heap.objs.size := by simpa using hb
    subst e
    exact I1.fpOk (Nat.le_refl _) (I1.hok.fresh (Nat.le_refl _))
  · obtain ⟨its, rv, p, hz⟩ := I1.tuple hq
    refine wpAny_pyIter_tuple (show s1.heap.IsTuple a its.toArray from p) ?_
    refine ⟨s1.heap.objs.size, [s1.heap.objs.size], _, _, H1, rfl, I1.kept (t' := s1.toks) fun b o e => Heap.get?_push_of_some _ e, turn_tuple a _, ⟨_, Heap.get?_push_size _ rfl, rfl, rfl⟩, fun b hb => ?_, q⟩
    have e : b = s1.heap.objs.size := by simpa using hb
    subst e
    exact I1.fpOk (Nat.le_refl _) (I1.hok.fresh (Nat.le_refl _))
theorem walk3 {l : Expr} {t : WE} (h : PE3 X l t) : PI3 X tg l (wWalk t) := impI (pi_seq h) fun σ H R hq32 => by
  obtain ⟨S, ρ, Q3, fc, sl, ht, k⟩ := hq32
  refine ⟨S, ρ, _, fc, sl, ht, fun v H1 d s1 d1 q1 => ?_⟩
  cases d with
  | lst ds =>
    have d1' := d1
    simp only [Dn] at d1
    obtain ⟨a, xs, rfl, ha, sa, da⟩ := d1
    exact ⟨a, rfl, .inl ⟨⟨xs, SqL.of ha⟩, k _ H1 ds [(.lst ds, .ref a)] s1 (fun g hg => by cases List.mem_singleton.mp hg; exact d1') wlk_list q1⟩⟩
  | tup ds =>
    have d1' := d1
    simp only [Dn] at d1
    obtain ⟨a, xs, rfl, ha, da⟩ := d1
    exact ⟨a, rfl, .inr ⟨⟨xs, (SqT.of ha)⟩, k _ H1 ds [(.tup ds, .ref a)] s1 (fun g hg => by cases List.mem_singleton.mp hg; exact d1') wlk_tup q1⟩⟩
  | _ => exact q1.elim
noncomputable def rngI (lo : Int) (n : Nat) : List Int := (List.range n).map fun k : Nat => lo + (k : Int)
theorem rngI_length (lo : Int) (n : Nat) : (rngI lo n).length = n := by simp [rngI]
theorem rngI_get {lo : Int} {n i : Nat} : (rngI lo n)[i]? = if i < n then some (lo + (i : Int)) else none := by
  unfold rngI
  rw [List.getElem?_map]
  by_cases h : i < n
  · rw [if_pos h, List.getElem?_range h]; rfl
  · rw [if_neg h, List.getElem?_eq_none (by simpa using h)]; rfl
theorem wlk_range {K : PySem.W.Frag} {lo : Int} {n : Nat} : Wlk K (Itr lo n) ((rngI lo n).map D.int) [] where
  go := fun S H fc hg i d e => by
    rw [List.getElem?_map, rngI_get] at e
    by_cases h : i < n
    · rw [if_pos h] at e
      cases e
      refine ⟨h, fun x H' y => ?_⟩
      obtain ⟨e1, e2⟩ := y
      subst e1
      exact ⟨Same.refl _, by simp only [Dn]; exact e2⟩
    · rw [if_neg h] at e; cases e
  stop := fun S H hg i hi => by rw [List.length_map, rngI_length] at hi; exact Nat.le_of_eq hi
noncomputable def wRange (t : WA) : WI := fun ρ Q => t ρ fun ds => match ds with
  | [.int j] => (-(2 ^ 62) ≤ j ∧ j < 2 ^ 62) ∧ Q ((rngI 0 j.toNat).map D.int)
  | _ => False
theorem range3 {a : Expr} {t : WA} {p pos : Pos} (hm : X.mg "range" = none) (ha : PA3 X [a] t) (hg : Gl X "range" := by rfl) (hs : starEach [a] X.env = [(false, eval a X.env)] := by rfl) : PI3 X tg (.Call (.Name "range" p) [a] [] pos) (wRange t) :=
  impI (pi_range1 hg hm ha hs) fun σ H R hq33 => by
    obtain ⟨S, ρ, Q3, fc, sl, ht, k⟩ := hq33
    refine ⟨S, ρ, _, fc, sl, ht, fun vs H1 ds s1 d1 q1 => ?_⟩
    split at q1
    · rename_i j
      obtain ⟨v, r, rfl, h1, h2⟩ := d1.uncons
      simp only [Dns] at h2
      subst h2
      simp only [Dn] at h1
      subst h1
      exact ⟨j, rfl, q1.1.1, q1.1.2, k _ H1 _ [] s1 (fun g hg => nomatch hg) wlk_range q1.2⟩
    · exact q1.elim
noncomputable abbrev WG := D → SEnv → (SEnv → Prop) → Prop
noncomputable def liftG (K : PySem.W.Frag) (n : Nat) (g : WG) : TG := fun v σ H Q => ∃ (H₀ : Hp) (S : Addr → Prop) (w : Nat → Addr) (ρ : SEnv) (G : List (D × V)) (d : D) (Q3 : SEnv → Prop), σ.length = n ∧ ST K H₀ S w σ H ρ G ∧ Dn K (SO S w ρ) H d v ∧ g d ρ Q3 ∧
  ∀ σ' H' ρ', σ'.length = n → ST K H₀ S w σ' H' ρ' G → Q3 ρ' → Q σ' H'
noncomputable def PG3 (X : Cx) (tg : Expr) (g : WG) : Prop := PG X tg (liftG X.K X.N.length g)
theorem impG {e : Expr} {t t' : TG} (h : PG X e t) (f : ∀ v σ H Q, t' v σ H Q → t v σ H Q) : PG X e t' := fun pins s σ H v u Q I r q => h pins s σ H v u Q I r (f v σ H Q q)
noncomputable def gN (i : Nat) : WG := fun d ρ Q => Q (ρ.set i (.ro d))
theorem name3 {i : Nat} {x : Str} {pos : Pos} (hN : X.N.Nodup) (hi : X.N[i]? = some x := by rfl) (hx : Loc X.env.scope x := by first | exact .inl rfl | exact .inr rfl) (hf : X.fn x = true ∨ X.env.scope.names.lookup x = some .local := by first | exact .inl rfl | exact .inr rfl) : PG3 X (.Name x pos) (gN i) :=
  impG (pg_name hN hi hx hf) fun v σ H Q hq34 => by obtain ⟨H₀, S, w, ρ, G, d, Q3, hl, st, dn, hg, k⟩ := hq34; exact k _ H _ (by rw [List.length_set]; exact hl) (st.set_ro (by rw [hl]; exact ix_lt hi) dn) hg
noncomputable def g2 (i j : Nat) : WG := fun d ρ Q => match d with
  | .tup [d1, d2] => Q ((ρ.set i (.ro d1)).set j (.ro d2))
  | _ => False
noncomputable def wFor (ti : WI) (g : WG) (tb : WS) : WS := fun E ρ => ti (vRd ρ) fun ds => ∃ Inv : Nat → SEnv → Prop, Inv 0 ρ ∧
  (∀ (i : Nat) (d : D) (ρ' : SEnv), ds[i]? = some d → Inv i ρ' → g d ρ' fun ρ2 => tb { E with nx := Inv (i + 1), ct := Inv (i + 1), bk := E.nx } ρ2) ∧ ∀ ρ', Inv ds.length ρ' → E.nx ρ'
theorem for3 {iter : Expr} {body : List Stmt} {ti : WI} {g : WG} {tb : WS} {pos : Pos} (hc : X.calm = true) (hp : PassesOwn (model X.prog X.w) X.A X.env X.xe) (hi : PI3 X tg iter ti) (hg : PG3 X tg g) (hb : PSs3 X body tb)
    (hs : ∀ x, foldedSetIterable iter X.env x = pure x := by intro _; rfl) : PS3 X (.For tg iter body [] pos) (wFor ti g tb) := impS (ps_for hp hc hi hg hb hs) fun B σ H hq35 => by
  obtain ⟨H₀, S, w, ρ, G, E, hl, st, ht, ok⟩ := hq35
  refine ⟨_, vRd ρ, _, st.fcO, st.rd, ht, fun J H1 ds G1 s1 hg1 wk q1 => ?_⟩
  obtain ⟨Iv, h0, turn, fin⟩ := q1
  have stG : ∀ {w σ H ρ}, ST X.K H₀ S w σ H ρ (G1 ++ G) → ST X.K H₀ S w σ H ρ G := fun st => st.ghost fun g hg => st.gh g (List.mem_append_right _ hg)
  refine ⟨fun i m σ H => m = ds.length - i ∧ i ≤ ds.length ∧ σ.length = X.N.length ∧ ∃ w ρ, ST X.K H₀ S w σ H ρ (G1 ++ G) ∧ Iv i ρ,
    ⟨_, rfl, Nat.zero_le _, hl, w, ρ, (st.same s1).ghost fun g hg => (List.mem_append.mp hg).elim (fun z => hg1 g z) fun z => (st.same s1).gh g z, h0⟩, ?_⟩
  rintro i m σ2 H2 ⟨rfl, hi2, hl2, w2, ρ2, st2, iv⟩
  by_cases hlt : i < ds.length
  · refine .inr ?_
    obtain ⟨g1, g2⟩ := wk.go _ H2 st2.fcO (fun g hg => st2.gh g (List.mem_append_left _ hg)) i ds[i] (by simp [hlt])
    refine ⟨g1, fun σ' H' => σ'.length = X.N.length ∧ ∃ w ρ, ST X.K H₀ S w σ' H' ρ (G1 ++ G) ∧ Iv (i + 1) ρ, fun σ' H' ⟨hl', w', ρ', st', iv'⟩ => ⟨ds.length - (i + 1), by omega, rfl, hlt, hl', w', ρ', st', iv'⟩, fun x H' y => ?_⟩
    obtain ⟨s3, dx⟩ := g2 x H' y
    refine ⟨H₀, S, w2, ρ2, G1 ++ G, ds[i], _, hl2, st2.same s3, dx, turn i ds[i] ρ2 (by simp [hlt]) iv, fun σ4 H4 ρ4 hl4 st4 q4 => ?_⟩
    exact ⟨H₀, S, w2, ρ4, G1 ++ G, _, hl4, st4, q4, ⟨fun w' σ' H' ρ' hl' st' q => ⟨hl', w', ρ', st', q⟩, fun v H' d s' d' q => ok.rt v H' d s' d' q, fun w' σ' H' ρ' hl' st' q => ok.nx w' σ' H' ρ' hl' (stG st') q, fun w' σ' H' ρ' hl' st' q => ⟨hl', w', ρ', st', q⟩, ok.ex⟩⟩
  · have e : i = ds.length := by omega
    subst e
    exact .inl ⟨wk.stop _ H2 (fun g hg => st2.gh g (List.mem_append_left _ hg)) _ rfl, ok.nx w2 σ2 H2 ρ2 hl2 (stG st2) (fin ρ2 iv)⟩
end
end L3
end
section
set_option Elab.async false
set_option linter.all false
set_option maxRecDepth 100000
set_option maxHeartbeats 3999999
namespace L3
open PySem PySem.Spec PyProof.Rows L2
theorem closure_of {scope : Scope} {env : Env} (h : ∀ x ∈ scope.names, x.2 = .free → ∃ c, env.cells.lookup x.1 = some c) :
    ∃ cl, closureFor scope env = pure cl ∧ (∀ x ∈ scope.names, x.2 = .free → cl.lookup x.1 = env.cells.lookup x.1) ∧ ∀ x c, cl.lookup x = some c → env.cells.lookup x = some c := by
  have go : ∀ (l : List (Str × NameKind)) (acc : List (Str × Addr)), (∀ x ∈ l, x.2 = .free → ∃ c, env.cells.lookup x.1 = some c) → (∀ x c, acc.lookup x = some c → env.cells.lookup x = some c) →
      ∃ cl, (forIn l acc fun (x : Str × NameKind) (cs : List (Str × Addr)) => (match x with | (name, kind) => if (kind == NameKind.free) = true then (do let c ← cellOf env name; pure (ForInStep.yield ((name, c) :: cs))) else pure (ForInStep.yield cs) : Sem (ForInStep (List (Str × Addr))))) = pure cl ∧
        (∀ x c, acc.lookup x = some c → cl.lookup x = some c) ∧ (∀ x ∈ l, x.2 = .free → cl.lookup x.1 = env.cells.lookup x.1) ∧ ∀ x c, cl.lookup x = some c → env.cells.lookup x = some c := by
    intro l
    induction l with
    | nil => intro acc _ ha; exact ⟨acc, by rw [List.forIn_nil], fun _ _ z => z, fun x hx => (nomatch hx), ha⟩
    | cons y l ih =>
      intro acc hf ha
      by_cases hk : y.2 = .free
      · obtain ⟨c, hc⟩ := hf y List.mem_cons_self hk
        have ha' : ∀ x c', ((y.1, c) :: acc).lookup x = some c' → env.cells.lookup x = some c' := fun x c' hx => by
          rw [List.lookup_cons] at hx
          split at hx
          · rename_i e
            cases hx
            rw [eq_of_beq e]; exact hc
          · exact ha x c' hx
        obtain ⟨cl, e, h1, h2, h3⟩ := ih ((y.1, c) :: acc) (fun x hx => hf x (List.mem_cons_of_mem _ hx)) ha'
        refine ⟨cl, ?_, fun x c' hx => ?_, fun x hx hfx => ?_, h3⟩
        · rw [List.forIn_cons, ← e]
          have e1 : (y.2 == NameKind.free) = true := by rw [hk]; rfl
          have e2 : cellOf env y.1 = pure c := by unfold cellOf; rw [hc]
          obtain ⟨yn, yk⟩ := y
          dsimp only at e1 e2 ⊢
          rw [if_pos e1, e2]
          rfl
        · by_cases hxy : x = y.1
          · subst hxy
            have e3 : ((y.1, c) :: acc).lookup y.1 = some c := by simp
            have e4 := ha _ _ hx
            rw [hc] at e4
            cases e4
            exact h1 _ _ e3
          · refine h1 x c' ?_
            rw [List.lookup_cons]
            have : (x == y.1) = false := by simpa using hxy
            rw [this]; exact hx
        · rcases List.mem_cons.mp hx with rfl | hx
          · rw [hc]; exact h1 _ _ (by simp)
          · exact h2 x hx hfx
      · obtain ⟨cl, e, h1, h2, h3⟩ := ih acc (fun x hx => hf x (List.mem_cons_of_mem _ hx)) ha
        refine ⟨cl, ?_, h1, fun x hx hfx => ?_, h3⟩
        · rw [List.forIn_cons, ← e]
          have e1 : ¬ (y.2 == NameKind.free) = true := by simpa using hk
          obtain ⟨yn, yk⟩ := y
          dsimp only at e1 ⊢
          rw [if_neg e1]
          rfl
        · rcases List.mem_cons.mp hx with rfl | hx
          · exact absurd hfx hk
          · exact h2 x hx hfx
  obtain ⟨cl, e, _, h2, h3⟩ := go scope.names [] h (fun x c z => by simp at z)
  refine ⟨cl, ?_, h2, h3⟩
  have e' := congrArg (fun t => t >>= fun r => (pure r : Sem (List (Str × Addr)))) e
  exact e'
theorem cellsFrom_around : ∀ (l : List (Str × NameKind)) (n : Nat) (own cl : List (Str × Addr)), cellsFrom n l (own ++ cl) = cellsFrom n l own ++ cl
  | [], _, _, _ => rfl
  | (x, k) :: r, n, own, cl => by
    unfold cellsFrom
    split
    · exact cellsFrom_around r (n + 1) ((x, n) :: own) cl
    · exact cellsFrom_around r n own cl
theorem cellsFrom_kind : ∀ (l : List (Str × NameKind)) (n : Nat) (own : List (Str × Addr)) (p : Str × Addr), p ∈ cellsFrom n l own → p ∈ own ∨ (p.1, NameKind.cell) ∈ l
  | [], _, _, _, h => .inl h
  | (x, k) :: r, n, own, p, h => by
    unfold cellsFrom at h
    split at h
    · rename_i hk
      rcases cellsFrom_kind r _ _ p h with h | h
      · rcases List.mem_cons.1 h with rfl | h
        · exact .inr (by rw [← eq_of_beq hk]; exact List.mem_cons_self)
        · exact .inl h
      · exact .inr (List.mem_cons_of_mem _ h)
    · rcases cellsFrom_kind r _ _ p h with h | h
      · exact .inl h
      · exact .inr (List.mem_cons_of_mem _ h)
theorem cellsFrom_has : ∀ (l : List (Str × NameKind)) (n : Nat) (own : List (Str × Addr)) (x : Str), ((∃ c, own.lookup x = some c) ∨ (x, NameKind.cell) ∈ l) → ∃ c, (cellsFrom n l own).lookup x = some c
  | [], _, _, _, h => h.elim id fun z => (nomatch z)
  | (y, k) :: r, n, own, x, h => by
    unfold cellsFrom
    split
    · refine cellsFrom_has r _ _ x ?_
      by_cases e : x = y
      · exact .inl ⟨n, by rw [e, List.lookup_cons, beq_self_eq_true]⟩
      · rcases h with ⟨c, h⟩ | h
        · exact .inl ⟨c, by rw [List.lookup_cons, beq_eq_false_iff_ne.mpr e]; exact h⟩
        · rcases List.mem_cons.mp h with z | z
          · exact absurd (Prod.mk.inj z).1 e
          · exact .inr z
    · rename_i hk
      refine cellsFrom_has r _ _ x (h.imp_right fun z => ?_)
      rcases List.mem_cons.mp z with z | z
      · rw [← (Prod.mk.inj z).2] at hk; exact absurd rfl hk
      · exact z
theorem new_block {M : Model} {A : Around} {E : Value → Shared → Prop} {s : Shared} {sc : Scope} {g : Addr} {cl : List (Str × Addr)} {q : Str} {f : Option Addr} {code : Value} {env : Env} {bl : Addr} {Q : Env → Shared → Prop}
    (h : ∀ h4 : Heap, h4.Ns s.heap.objs.size (fun _ => none) → (∀ b o, s.heap.get? b = some o → h4.get? b = some o) → CellsOk h4 (s.heap.objs.size + 1) (cellsFrom (s.heap.objs.size + 1) sc.names []) →
      Q (newEnv sc s.heap.objs.size g (cellsFrom (s.heap.objs.size + 1) sc.names cl) q f code (some env) bl) { s with heap := h4 }) :
    wpAny M A (newFunctionEnv sc g cl [] q f code (some env) bl) Q E s := by
  unfold newFunctionEnv
  refine wpAny_bind (wpAny_alloc (wpAny_bind (wpAny_layCells _ (fun x k c => by cases e : k == NameKind.cell <;> simp [e]) _ _ _ _ ?_)))
  have hz : ∀ o : Obj, (s.heap.push o).objs.size = s.heap.objs.size + 1 := fun o => Heap.size_push ..
  have ok := fun o => cellsFrom_ok sc.names (s.heap.push o) (s.heap.objs.size + 1) [] ⟨fun _ _ z => (nomatch z), .nil⟩ (by rw [hz]; exact Nat.le_refl _)
  simp only [hz] at ok ⊢
  rw [List.forIn_nil]
  exact wpAny_bind (wpAny_pure (wpAny_pure (h _ ((Heap.Ns.new s.heap _).keeps (pushCells_keeps _ _)) (fun b o e => pushCells_keeps _ _ b o (Heap.get?_push_of_some _ e)) (ok _))))
noncomputable def blk (X : Cx) (N : List Str) (sc : Scope) (cl : List (Str × Addr)) (C : Addr) (pn : List (Addr × Obj)) (ex : List Addr) (s₀ : Shared) (H₀ : Hp) : Cx :=
  { X with N := N, s₀ := s₀, H₀ := H₀, env := compEnvC sc cl C X.env, outer := X.stack, stack := X.stack, ex := ex, fn := fun x => sc.names.lookup x == some NameKind.cell, pn := pn, xe := fun _ _ => False }
noncomputable def bst (nl : Nat) (fr : List Nat) (σ : L2.St) : L2.St := List.replicate nl none ++ fr.map fun j => (σ[j]?).join
structure BlkOk (X : Cx) (ls fs : List Str) (fr : List Nat) (sc : Scope) : Prop where
  kind : sc.kind = .function
  nd : (ls ++ fs).Nodup
  uniq : ∀ x ∈ sc.names, sc.names.lookup x.1 = some x.2
  free : ∀ x ∈ sc.names, x.2 = .free → X.env.kindOf x.1 = some .cell ∨ X.env.kindOf x.1 = some .free
  slot : ∀ (k : Nat) (x : Str), fs[k]? = some x → ∃ j, fr[k]? = some j ∧ X.N[j]? = some x ∧ (x, NameKind.free) ∈ sc.names ∧ sc.names.lookup x = some .free
  lenF : fr.length = fs.length
section
variable {X : Cx}
theorem lookup_kept (t : Str → NameKind → NameKind) (x : Str) : ∀ l : List (Str × NameKind), (l.map fun p => (p.1, t p.1 p.2)).lookup x = (l.lookup x).map (t x)
  | [] => rfl
  | (n, k) :: r => by
    rw [List.map_cons, List.lookup_cons, List.lookup_cons]
    by_cases hx : (x == n) = true
    · rw [hx, eq_of_beq hx]; rfl
    · rw [Bool.not_eq_true] at hx
      rw [hx]
      exact lookup_kept t x r
theorem relabel_lookup {sc : Scope} {env : Env} {x : Str} {l : List (Str × NameKind)} : (l.map fun (n, k) => if (k == NameKind.free && env.scope.kind == .function && env.kindOf n == some .cell) then (n, NameKind.cell) else (n, k)).lookup x =
    (l.lookup x).map fun k => if (k == NameKind.free && env.scope.kind == .function && env.kindOf x == some .cell) then NameKind.cell else k := by
  rw [← lookup_kept (fun y k => if (k == NameKind.free && env.scope.kind == .function && env.kindOf y == some .cell) then NameKind.cell else k) x l]
  refine congrArg (List.lookup x) (List.map_congr_left fun p _ => ?_)
  dsimp only
  split <;> rfl
theorem ne_size {b c : Addr} {h : Heap} {o : Obj} (e : h.get? b = some o) (hc : c = h.objs.size) : b ≠ c := fun z => Nat.lt_irrefl _ (by have q := Heap.lt_size e; rw [z, hc] at q; exact q)
theorem lt_ne {b c : Addr} {n : Nat} (h : b < n) (hc : n ≤ c) : b ≠ c := fun z => Nat.lt_irrefl c (Nat.lt_of_lt_of_le (z ▸ h) hc)
theorem inv_blk {ls fs : List Str} {fr : List Nat} {sc : Scope} {cl : List (Str × Addr)} {C : Addr} {pins : List (Addr × Obj)} {ex : List Addr} {σ : L2.St} {H : Hp} {s s4 : Shared} (B : BlkOk X ls fs fr sc) (I : Inv X pins σ H s)
    (hcl : ∀ x ∈ sc.names, x.2 = .free → cl.lookup x.1 = X.env.cells.lookup x.1) (hcl2 : ∀ x c, cl.lookup x = some c → X.env.cells.lookup x = some c ∨ (C < c ∧ s4.heap.IsCell c none)) (hcl3 : ∀ x ∈ sc.names, x.2 = .cell → ∃ c, cl.lookup x.1 = some c ∧ C < c)
    (hinj : ∀ x y c, cl.lookup x = some c → cl.lookup y = some c → x = y) (hex : ∀ b ∈ ex, FpOk X pins H b ∧ b < s.heap.objs.size)
    (hC : C = s.heap.objs.size) {m : Str → Option Value} (hn : s4.heap.Ns C m) (hk : ∀ b o, s.heap.get? b = some o → s4.heap.get? b = some o) (ho : s4.os = s.os) (hg : s4.gens = s.gens) :
    Inv (blk X (ls ++ fs) sc cl C (X.pn ++ pins) ex s H) [] (bst ls.length fr σ) H s4 := by
  have ltC : ∀ {b : Addr} {o : Obj}, s.heap.get? b = some o → b ≠ C := fun e => ne_size e hC
  have cellC : ∀ x c, cl.lookup x = some c → c ≠ C := fun x c e => by
    rcases hcl2 x c e with e | ⟨e, _⟩
    · obtain ⟨v, o, ho, _⟩ := I.cell x c e
      exact ltC ho
    · exact Nat.ne_of_gt e
  have kOf : ∀ x, (compEnvC sc cl C X.env).kindOf x = (sc.names.lookup x).map fun k => if (k == NameKind.free && X.env.scope.kind == .function && X.env.kindOf x == some .cell) then NameKind.cell else k := fun x => relabel_lookup (sc := sc)
  have okX : (blk X (ls ++ fs) sc cl C (X.pn ++ pins) ex s H).Ok := by
    refine ⟨I.ok.mod, B.kind, I.ok.glob, I.ok.blt, (by show s.heap.objs.size ≤ C; rw [hC]; exact Nat.le_refl _), hinj, fun x hx => ?_, fun x c hf hl => ?_, I.ok.hd, I.ok.frames, .inl rfl, fun b hb => ?_, fun b o e => I.bs b o e, Nat.le_trans I.ok.bsz I.sz, fun b o e hb => ?_, fun b hb => ?_, I.stack, I.stkFree⟩
    · -- a cell or free name of the block
      have hx' : ∃ k, sc.names.lookup x = some k ∧ ((if (k == NameKind.free && X.env.scope.kind == .function && X.env.kindOf x == some .cell) then NameKind.cell else k) = .cell ∨ (if (k == NameKind.free && X.env.scope.kind == .function && X.env.kindOf x == some .cell) then NameKind.cell else k) = .free) := by
        have hx : (compEnvC sc cl C X.env).kindOf x = some .cell ∨ (compEnvC sc cl C X.env).kindOf x = some .free := hx
        rw [kOf] at hx
        cases e : sc.names.lookup x with
        | none => rw [e] at hx; rcases hx with hx | hx <;> cases hx
        | some k => rw [e] at hx; exact ⟨k, rfl, hx.imp (fun z => Option.some.inj z) fun z => Option.some.inj z⟩
      obtain ⟨k, e, hk'⟩ := hx'
      have hm := PySem.mem_of_lookup e
      by_cases kf : k = .free
      · subst kf
        have q := hcl _ hm rfl
        obtain ⟨c, hc⟩ := I.ok.has x (B.free _ hm rfl)
        exact ⟨c, q.trans hc⟩
      · have e2 : (k == NameKind.free) = false := by simpa using kf
        rw [e2] at hk'
        simp only [Bool.false_and, Bool.false_eq_true, if_false] at hk'
        rcases hk' with z | z
        · obtain ⟨c, hc, _⟩ := hcl3 _ hm z
          exact ⟨c, hc⟩
        · exact absurd z kf
    · -- an own cell is new
      obtain ⟨c', hc', hlt⟩ := hcl3 _ (PySem.mem_of_lookup (eq_of_beq hf)) rfl
      have hc' : cl.lookup x = some c' := hc'
      have hl : cl.lookup x = some c := hl
      rw [hl] at hc'
      cases hc'
      rw [hC] at hlt
      exact Nat.le_of_lt hlt
    · refine ⟨lt_ne (hex b hb).2 (Nat.le_of_eq hC.symm), fun x c e => ?_⟩
      rcases hcl2 x c e with e | ⟨e, _⟩
      · exact (hex b hb).1.2.2.2.2.1 x c e
      · exact Ne.symm (lt_ne (hex b hb).2 (by rw [← hC]; exact Nat.le_of_lt e))
    · obtain ⟨⟨_, _, _, f3, _, _⟩, _⟩ := hex b hb
      rcases f3 with f3 | f3
      · exact I.ok.noex b o e f3
      · exact absurd (Nat.lt_of_lt_of_le (Heap.lt_size e) (Nat.le_trans I.ok.bsz f3)) (Nat.lt_irrefl _)
    · intro z
      obtain ⟨⟨_, f1, f2, _, _, _⟩, _⟩ := hex b hb
      rcases List.mem_cons.mp (I.stkSub b z) with z | z
      · exact f1 z
      · exact f2 z
  refine ⟨okX, ho, by rw [hg]; exact I.bare, Un.kept hk, ⟨m, hn, fun i x v h1 h2 h3 => ?_⟩, fun x c e => ?_, ?_, fun x c e => ?_, fun p hp => ?_, I.hok.kept hk, ?_⟩
  · -- a name with a value is one from around
    have hi : ¬ i < ls.length := fun hi => by
      unfold bst at h2
      rw [List.getElem?_append_left (by simpa using hi), List.getElem?_replicate, if_pos hi] at h2
      cases h2
    have e1 : fs[i - ls.length]? = some x := by
      have h1 : (ls ++ fs)[i]? = some x := h1
      rw [List.getElem?_append_right (by omega)] at h1
      exact h1
    obtain ⟨j, ej, eN, hm, hlk⟩ := B.slot _ _ e1
    have e2 : (σ[j]?).join = some v := by
      unfold bst at h2
      rw [List.getElem?_append_right (by simpa using hi), List.getElem?_map, List.length_replicate, ej] at h2
      exact Option.some.inj h2
    have e3 : σ[j]? = some (some v) := by
      cases q : σ[j]? with
      | none => rw [q] at e2; cases e2
      | some o => rw [q] at e2; rw [show o = some v from e2]
    have hfr := B.free _ hm rfl
    have vis : Vis X.env.scope x := .inr hfr
    obtain ⟨mm, hnm, hl⟩ := I.loc
    obtain ⟨u, r, l⟩ := hl j x v eN e3 vis
    refine ⟨u, r, ?_⟩
    rcases l with ⟨k1, _⟩ | ⟨k1, c, ec, zc⟩
    · have k1 : X.env.kindOf x = some .local := k1
      rcases hfr with z | z <;> rw [k1] at z <;> cases z
    · refine .inr ⟨?_, c, (hcl _ hm rfl).trans ec, ?_⟩
      · show (compEnvC sc cl C X.env).kindOf x = some .cell ∨ (compEnvC sc cl C X.env).kindOf x = some .free
        rw [kOf, hlk]
        dsimp only [Option.map]
        split
        · exact .inl rfl
        · exact .inr rfl
      · obtain ⟨oc, hoc, hd⟩ := zc
        exact ⟨oc, hk _ _ hoc, hd⟩
  · rcases hcl2 x c e with e | ⟨_, e⟩
    · obtain ⟨v, oc, hoc, hd⟩ := I.cell x c e
      exact ⟨v, oc, hk _ _ hoc, hd⟩
    · exact ⟨none, e⟩
  · show H C = none
    rw [hC]; exact I.hok.fresh (Nat.le_refl _)
  · rcases hcl2 x c e with e | ⟨e, _⟩
    · exact I.freeC x c e
    · exact I.hok.fresh (by rw [← hC]; exact Nat.le_of_lt e)
  · have hp : p ∈ (X.pn ++ pins) ++ [] := hp
    rw [List.append_nil] at hp
    obtain ⟨e, n, ne, nf, d⟩ := I.pin p hp
    refine ⟨hk _ _ e, n, ltC e, fun z => ?_, d⟩
    rcases List.mem_cons.mp (I.stkSub _ z) with z | z
    · exact ne z
    · exact nf z
  · show (bst ls.length fr σ).length = (ls ++ fs).length
    unfold bst
    rw [List.length_append, List.length_append, List.length_replicate, List.length_map, B.lenF]
theorem inv_back {ls fs : List Str} {sc : Scope} {cl : List (Str × Addr)} {C : Addr} {pins pins' : List (Addr × Obj)} {ex : List Addr} {σ σ' : L2.St} {H H' : Hp} {s s' : Shared} {h' : Heap} (I : Inv X pins σ H s)
    (J : Inv (blk X (ls ++ fs) sc cl C (X.pn ++ pins) ex s H) pins' σ' H' s') (hex : ∀ b ∈ ex, FpOk X pins H b) (hC : C = s.heap.objs.size) (hs : Heap.SameBut C s'.heap h') : Inv X pins σ H' { s' with heap := h' } := by
  have ltC : ∀ {b : Addr} {o : Obj}, s.heap.get? b = some o → b ≠ C := fun e => ne_size e hC
  have fr : H' C = none := J.free
  have un : Un (frs X.stack) ex H H' s.heap s'.heap := J.base
  refine I.call' (s' := { s' with heap := h' }) (ch := ex) J.os ⟨fun b o e n hb hx => (hs.2 b (ltC e)).trans (un.keep b o e n hb hx), fun b o e n hb hx => ?_, un.free, fun b o e hx => ?_, un.tups, un.frzs, un.tbls⟩ ?_ J.bare fun b hb => ?_
  · obtain ⟨sl, q⟩ := un.slot b o e n hb hx
    exact ⟨sl, (hs.2 b (ltC e)).trans q⟩
  · obtain ⟨o', q⟩ := un.there b o e hx
    exact ⟨o', (hs.2 b (ltC e)).trans q⟩
  · intro b ob e
    refine (J.hok b ob e).stay (fun c u hc q => (hs.2 c ?_).trans q) (fun _ q => q) fun _ _ q => q
    intro z
    rcases hc with hc | hc
    · rw [z] at hc; rw [← hc, fr] at e; cases e
    · rw [z, fr] at hc; cases hc
  · obtain ⟨_, f1, _, f3, f4, f5⟩ := hex b hb
    exact ⟨f3, f1, f4, f5⟩
noncomputable abbrev ifsRun (ifs : List Expr) (env : Env) : Sem Bool := forIn ifs true fun c r => if r = true then (do let b ← isTrue c env (eval c env); pure (ForInStep.yield b)) else pure (ForInStep.yield r)
noncomputable abbrev Calm (prog : Program) (w : World) (A : Around) {α : Type} (t : Sem α) (Q : α → Shared → Prop) (s : Shared) : Prop := wpAny (model prog w) A t Q (fun _ _ => False) s
theorem codeAny_compLoop_any {prog : Program} {w : World} {A : Around} {R : Result → Shared → Prop} {s : Shared} {el tg src : Expr} {ifs : List Expr} {bs : Scope} {at_ : Pos} {it acc : Value} {env : Env} (Iv : Nat → Shared → Prop)
    (turn : ∀ n s, Iv n s → Calm prog w A (pyNext it) (fun got s1 => match got with
      | none => R (.ok .next) s1
      | some v => Calm prog w A (letOwnedTupleGo tg it v) (fun _ s2 => Calm prog w A (assign tg env v) (fun _ s3 => Calm prog w A (ifsRun ifs env) (fun ok s4 =>
          if ok = true then Calm prog w A (eval el env) (fun x s5 => Calm prog w A (call (.builtin "list.append") [acc, x]) (fun _ s6 => ∃ m, m < n ∧ Iv m s6) s5) s4 else ∃ m, m < n ∧ Iv m s4) s3) s2) s1) s)
    (n : Nat) (h : Iv n s) : codeAny (model prog w) A (.compLoop (.ListComp el [⟨tg, src, ifs, 0⟩] bs at_) 0 it acc env) R s := by
  have no : ∀ {α : Type} {E : Value → Shared → Prop} {t : Sem α} {Q Q' : α → Shared → Prop} {s : Shared}, Calm prog w A t Q s → (∀ a s, Q a s → Q' a s) → wpAny (model prog w) A t Q' E s := fun h f => wpAny_mono h f fun _ _ z => z.elim
  refine codeAny_loop rfl Iv (fun n s hI => ?_) n h
  refine wpAny_noted (m := compTurn (.ListComp el [⟨tg, src, ifs, 0⟩] bs at_) 0 it acc env) ?_
  rw [compTurn_list]
  refine wpAny_bind (wpAny_standAt (wpAny_bind (no (turn n s hI) fun got s1 h1 => ?_)))
  match got, h1 with
  | none, h1 => exact wpAny_pure h1
  | some v, h1 =>
    refine wpAny_bind (no h1 fun _ _ h2 => wpAny_bind (no h2 fun _ _ h3 => wpAny_bind (no h3 fun ok s4 h4 => ?_)))
    match ok, h4 with
    | false, h4 => exact wpAny_pure (And.intro rfl h4)
    | true, h4 => exact wpAny_bind (wpAny_bind (no h4 fun _ _ h5 => wpAny_bind (no h5 fun _ _ h6 => wpAny_pure (wpAny_pure (And.intro rfl h6)))))
noncomputable abbrev TFk := L2.St → Hp → (Bool → Hp → Prop) → Prop
noncomputable def PIf (X : Cx) (ifs : List Expr) (t : TFk) : Prop :=
  ∀ (pins : List (Addr × Obj)) (s : Shared) (σ : L2.St) (H : Hp) (Q : Bool → Hp → Prop), Inv X pins σ H s → t σ H Q →
    wpAny (model X.prog X.w) X.A (forIn ifs true fun c r => if r = true then do let ok ← isTrue c X.env (eval c X.env); pure (ForInStep.yield ok) else pure (ForInStep.yield r)) (TP X pins σ Q) X.xe s
theorem if_none : PIf X [] (fun _ H Q => Q true H) := fun pins s σ H Q I h => by
  rw [List.forIn_nil]
  exact wpAny_pure ⟨H, I, h⟩
theorem if_one {c : Expr} {t : TT} (h : PT X c t) : PIf X [c] t := fun pins s σ H Q I hw => by
  rw [List.forIn_cons]
  refine wpAny_bind ?_
  rw [if_pos rfl]
  refine wpAny_bind (thn (h pins s σ H Q I hw) fun b s1 q => wpAny_pure ?_)
  dsimp only
  rw [List.forIn_nil]
  exact wpAny_pure q
noncomputable def tComp (nl : Nat) (fr : List Nat) (wi : TI) (g : TG) (tf : TFk) (te : TE) : TE := fun σ H Q => wi σ H fun J H1 => ∀ acc, H1 acc = none → ∃ W : Nat → Nat → Hp → List V → Prop, (∃ m, W 0 m (upd H1 acc (.lst [])) []) ∧
  ∀ i m H ys, W i m H ys → H acc = some (.lst ys) ∧ ((J.stop i H ∧ Q (.ref acc) H) ∨ (J.go i H ∧ ∀ x H', J.yld i H x H' → g x (bst nl fr σ) H' fun σ2 H2 => (σ2.drop nl = fr.map fun j => (σ[j]?).join) ∧ tf σ2 H2 fun b H3 =>
    if b = true then te σ2 H3 fun y H4 => H4 acc = some (.lst ys) ∧ ys.length < sizeLine ∧ ∃ m', m' < m ∧ W (i + 1) m' (upd H4 acc (.lst (ys ++ [y]))) (ys ++ [y]) else ∃ m', m' < m ∧ W (i + 1) m' H3 ys))
theorem run_comp {ls fs : List Str} {fr : List Nat} {sc : Scope} {tg iter elt : Expr} {ifs : List Expr} {pos p2 : Pos} {wi : TI} {g : TG} {tf : TFk} {te : TE} {pins : List (Addr × Obj)} {σ : L2.St} {H : Hp} {s : Shared} {Qe : VK} {use : Option (Value → Sem Unit)} {Qv : Value → Shared → Prop}
    (hc : X.calm = true) (B : BlkOk X ls fs fr sc) (hi : PI X tg iter wi) (hg : ∀ cl C pn ex s H, PG (blk X (ls ++ fs) sc cl C pn ex s H) tg g) (hf : ∀ cl C pn ex s H, PIf (blk X (ls ++ fs) sc cl C pn ex s H) ifs tf) (he : ∀ cl C pn ex s H, PE (blk X (ls ++ fs) sc cl C pn ex s H) elt te)
    (hs : ∀ x, foldedSetIterable iter X.env x = pure x) (I : Inv X pins σ H s) (h : tComp ls.length fr wi g tf te σ H Qe)
    (fin : ∀ acc C s' H', Inv X pins σ H' s' → (∃ m, s'.heap.Ns C m) → FpOk X pins H' C → Qe (.ref acc) H' → compPost (model X.prog X.w) X.A X.xe use Qv (.ref acc) C (.ok .next) s') :
    wpAny (model X.prog X.w) X.A (comprehension (.ListComp elt [⟨tg, iter, ifs, 0⟩] sc pos) sc X.env p2 (newList []) false (eval iter X.env) use) Qv X.xe s := by
  obtain ⟨cl, ecl, hcl, hcl2⟩ := closure_of (scope := sc) (env := X.env) fun x hx hf => I.ok.has x.1 (B.free x hx hf)
  refine wpAny_comprehension_free (g := ⟨tg, iter, ifs, 0⟩) (gs := []) rfl hs ecl B.kind (fun x hx e => (B.uniq x hx).trans (congrArg some e)) ?_
  refine thn (hi pins s σ H _ I h) fun v s1 h1 => thn h1 fun itv s2 h2 => ?_
  obtain ⟨it, fp, tn, J, H2, e, I2, T, st2, f2, h2⟩ := h2
  subst e
  refine wpAny_newObj_type ?_ (by show ([] : List Value).toArray.size ≤ sizeLine; simp)
  have hacc : H2 s2.heap.objs.size = none := I2.hok.fresh (Nat.le_refl _)
  have I3 : Inv X pins σ (upd H2 s2.heap.objs.size (.lst [])) { s2 with heap := s2.heap.push { cls := .type "list", data := .seq ([] : List Value).toArray } } :=
    I2.laid (t' := s2.toks) (fun b o e => Heap.get?_push_of_some _ e) (Nat.le_refl _) ⟨by simp, [], 0, .nil, Heap.get?_push_size _ rfl⟩
  have hfp : ∀ b ∈ fp, b < s2.heap.objs.size := fun b hb => by obtain ⟨o, e, _⟩ := T.obj _ _ st2 b hb; exact Heap.lt_size e
  obtain ⟨W, ⟨m0, w0⟩, turn⟩ := h2 _ hacc
  generalize hacc2 : s2.heap.objs.size = acc at hacc I3 w0 turn ⊢
  have fpne : ∀ b ∈ fp, b ≠ acc := fun b hb => lt_ne (hfp b hb) (Nat.le_of_eq hacc2)
  have f3 : ∀ b ∈ fp, FpOk X pins (upd H2 acc (.lst [])) b := fun b hb => ⟨by rw [upd_ne (fpne b hb)]; exact (f2 b hb).1, (f2 b hb).2⟩
  generalize hs3 : ({ s2 with heap := s2.heap.push { cls := .type "list", data := .seq ([] : List Value).toArray } } : Shared) = s3 at I3
  have hsz3 : s3.heap.objs.size = acc + 1 := by rw [← hs3]; show (s2.heap.push _).objs.size = _; rw [Heap.size_push, hacc2]
  have st3 : tn 0 s3.heap := T.keep _ _ _ st2 fun b hb o e => by rw [← hs3]; exact Heap.get?_push_of_some _ e
  refine new_block fun h4 hn4 hk4 co => ?_
  generalize hC : s3.heap.objs.size = C at hn4 co ⊢
  have eC : cellsFrom (C + 1) sc.names cl = cellsFrom (C + 1) sc.names [] ++ cl := cellsFrom_around sc.names (C + 1) [] cl
  generalize hcs : cellsFrom (C + 1) sc.names [] = cs at co eC
  have own : ∀ x c, cs.lookup x = some c → (x, NameKind.cell) ∈ sc.names ∧ C < c ∧ h4.IsCell c none := fun x c e => by
    have m := PySem.mem_of_lookup e
    refine ⟨?_, (co.empty x c m).2, (co.empty x c m).1⟩
    rw [← hcs] at m
    rcases cellsFrom_kind _ _ _ _ m with z | z
    · cases z
    · exact z
  generalize hdl : cellsFrom (C + 1) sc.names cl = dl at eC ⊢
  have two : ∀ x c, dl.lookup x = some c → cs.lookup x = some c ∨ (cs.lookup x = none ∧ cl.lookup x = some c) := fun x c e => by
    rw [eC, List.lookup_append] at e
    cases q : cs.lookup x with
    | none => rw [q] at e; exact .inr ⟨rfl, e⟩
    | some d => rw [q] at e; exact .inl e
  have hdl1 : ∀ x ∈ sc.names, x.2 = .free → dl.lookup x.1 = X.env.cells.lookup x.1 := fun x hx e => by
    rw [← hcl x hx e, eC, List.lookup_append]
    cases q : cs.lookup x.1 with
    | none => rfl
    | some d =>
      have z := B.uniq _ (own _ _ q).1
      rw [B.uniq x hx, e] at z
      cases z
  have hdl2 : ∀ x c, dl.lookup x = some c → X.env.cells.lookup x = some c ∨ (C < c ∧ h4.IsCell c none) := fun x c e => by
    rcases two x c e with e | ⟨_, e⟩
    · exact .inr (own x c e).2
    · exact .inl (hcl2 x c e)
  have hdl3 : ∀ x ∈ sc.names, x.2 = .cell → ∃ c, dl.lookup x.1 = some c ∧ C < c := fun x hx e => by
    obtain ⟨c, hc⟩ := cellsFrom_has sc.names (C + 1) [] x.1 (.inr (by rw [← e]; exact hx))
    rw [hcs] at hc
    exact ⟨c, by rw [eC, List.lookup_append, hc]; rfl, (own _ _ hc).2.1⟩
  have low : ∀ x c, cl.lookup x = some c → c < C := fun x c e => by
    obtain ⟨v, o, ho, _⟩ := I3.cell x c (hcl2 x c e)
    rw [← hC]; exact Heap.lt_size ho
  have hdl4 : ∀ x y c, dl.lookup x = some c → dl.lookup y = some c → x = y := fun x y c e e' => by
    rcases two x c e with e | ⟨_, e⟩ <;> rcases two y c e' with e' | ⟨_, e'⟩
    · exact name_of_addr co.apart (PySem.mem_of_lookup e) (PySem.mem_of_lookup e')
    · exact absurd (own _ _ e).2.1 (Nat.lt_asymm (low _ _ e'))
    · exact absurd (own _ _ e').2.1 (Nat.lt_asymm (low _ _ e))
    · exact I3.ok.inj x y c (hcl2 x c e) (hcl2 y c e')
  have I4 : Inv (blk X (ls ++ fs) sc dl C (X.pn ++ pins) fp s3 (upd H2 acc (.lst []))) [] (bst ls.length fr σ) (upd H2 acc (.lst [])) { s3 with heap := h4 } :=
    inv_blk B I3 hdl1 hdl2 hdl3 hdl4 (fun b hb => ⟨f3 b hb, by rw [hsz3, ← hacc2]; exact Nat.lt_succ_of_lt (hfp b hb)⟩) hC.symm hn4 hk4 rfl rfl
  generalize hX : blk X (ls ++ fs) sc dl C (X.pn ++ pins) fp s3 (upd H2 acc (.lst [])) = Y at I4
  have pY : Y.prog = X.prog := by rw [← hX]; rfl
  have wY : Y.w = X.w := by rw [← hX]; rfl
  have kY : Y.K = X.K := by rw [← hX]; rfl
  have AY : Y.A = X.A := by rw [← hX]; rfl
  have cY : Y.calm = true := by rw [← hX]; exact hc
  have eY : Y.env = compEnvC sc dl C X.env := by rw [← hX]; rfl
  have xY : Y.xe = fun _ _ => False := by rw [← hX]; rfl
  have statY : ∀ {H' : Hp}, (∀ b ∈ fp, H' b = none) → ∀ b ∈ fp, FpOk Y [] H' b := fun hn b hb => by
    rw [← hX]
    obtain ⟨_, f1, f2', _, f4, f5⟩ := f3 b hb
    refine ⟨hn b hb, fun z => ?_, fun z => ?_, .inl hb, fun x c e => ?_, fun p hp => f5 p ?_⟩
    · exact absurd z (lt_ne (hfp b hb) (by rw [← hC, hsz3, hacc2]; exact Nat.le_succ _))
    · rcases List.mem_cons.mp (I3.stkSub b z) with z | z
      · exact f1 z
      · exact f2' z
    · rcases hdl2 x c e with e | ⟨e, _⟩
      · exact f4 x c e
      · exact Ne.symm (lt_ne (hfp b hb) (by rw [hacc2]; exact Nat.le_of_lt (Nat.lt_trans (by rw [← hC, hsz3]; exact Nat.lt_succ_self _) e)))
    · have hp : p ∈ (X.pn ++ pins) ++ [] := hp
      rw [List.append_nil] at hp; exact hp
  have st4 : tn 0 h4 := T.keep _ _ _ st3 fun b hb o e => hk4 b o e
  have loop : ∀ s5 : Shared, (∃ i H', Inv Y [] (bst ls.length fr σ) H' s5 ∧ tn i s5.heap ∧ (∀ b ∈ fp, H' b = none) ∧ ∃ m ys, W i m H' ys) → codeAny (model X.prog X.w) X.A (.compLoop (.ListComp elt [⟨tg, iter, ifs, 0⟩] sc pos) 0 (.ref it) (.ref acc) (compEnvC sc dl C X.env)) (compPost (model X.prog X.w) X.A X.xe use Qv (.ref acc) C) s5 := by
    rintro s5 ⟨i, H', I5, st5, fr5, m, ys, w5⟩
    refine codeAny_compLoop_any (fun n s' => ∃ i H' ys, Inv Y [] (bst ls.length fr σ) H' s' ∧ tn i s'.heap ∧ (∀ b ∈ fp, H' b = none) ∧ W i n H' ys) ?_ m ⟨i, H', ys, I5, st5, fr5, w5⟩
    rintro n s6 ⟨i, H6, ys, I6, st6, fr6, w6⟩
    obtain ⟨ha6, alt⟩ := turn i n H6 ys w6
    rcases alt with ⟨stop, qn⟩ | ⟨go, step⟩
    · have q := T.done Y pY wY kY cY i [] s6 _ H6 (fun _ _ => False) I6 (statY fr6) st6 stop
      rw [AY] at q
      refine thn q fun r s7 hq36 => ?_
      obtain ⟨hr, I7⟩ := hq36
      subst hr
      have fr7 : H6 C = none := by
        have := I7.free
        rw [eY] at this
        exact this
      refine fin acc C s7 H6 ?_ ?_ (I3.fpOk (Nat.le_of_eq hC) fr7) qn
      · rw [← hX] at I7
        exact inv_back I3 I7 (fun b hb => f3 b hb) hC.symm (.refl ..)
      · obtain ⟨m, hm, _⟩ := I7.loc
        rw [eY] at hm
        exact ⟨m, hm⟩
    · have q := T.item Y pY wY kY cY i [] s6 _ H6 (fun _ _ => False) I6 (statY fr6) st6 go
      rw [AY] at q
      refine thn q fun r s7 hq37 => ?_
      obtain ⟨u, hr, h7⟩ := hq37
      subst hr
      refine thn h7 fun _ s8 hq38 => ?_
      obtain ⟨x, H8, I8, r8, y8, st8, fr8⟩ := hq38
      have I8' := I8.pinned (statY fr8) (T.obj _ _ st8)
      have hgY := hg dl C (X.pn ++ pins) fp s3 (upd H2 acc (.lst []))
      have hfY := hf dl C (X.pn ++ pins) fp s3 (upd H2 acc (.lst []))
      have heY := he dl C (X.pn ++ pins) fp s3 (upd H2 acc (.lst []))
      rw [hX] at hgY hfY heY
      have q8 := hgY _ s8 _ H8 x u _ I8' r8 (step x H8 y8)
      rw [pY, wY, AY, eY, xY] at q8
      refine thn q8 fun _ s9 hq39 => ?_
      obtain ⟨σ9, H9, I9, hσ9, q9⟩ := hq39
      have q10 := hfY _ s9 σ9 H9 _ I9 q9
      rw [pY, wY, AY, eY, xY] at q10
      refine thn q10 fun ok s10 hq40 => ?_
      obtain ⟨H10, I10, q10⟩ := hq40
      have bl : ∀ {H7 : Hp} {s7 : Shared}, Inv Y ([] ++ pinsAt fp s8.heap) σ9 H7 s7 → (∃ m', m' < n ∧ ∃ ys', W (i + 1) m' H7 ys') → ∃ m, m < n ∧ ∃ i H' ys, Inv Y [] (bst ls.length fr σ) H' s7 ∧ tn i s7.heap ∧ (∀ b ∈ fp, H' b = none) ∧ W i m H' ys := fun {H7 s7} I7 ⟨m', hm, ys', w7⟩ => by
        refine ⟨m', hm, i + 1, H7, ys', ?_, T.keep _ _ _ st8 fun b hb o e => (I7.pin (b, o) (List.mem_append_right _ (List.mem_append_right _ (mem_pinsAt hb e)))).1, fun b hb => ?_, w7⟩
        · refine I7.unpinned.weak ?_ fun k v e => ?_
          · rw [I7.len, ← I6.len]
          · by_cases hk : k < ls.length
            · unfold bst at e
              rw [List.getElem?_append_left (by simpa using hk), List.getElem?_replicate, if_pos hk] at e
              cases e
            · have e2 : (σ9.drop ls.length)[k - ls.length]? = some (some v) := by
                rw [hσ9]
                unfold bst at e
                rw [List.getElem?_append_right (by simpa using hk), List.length_replicate] at e
                exact e
              rw [List.getElem?_drop] at e2
              rw [show ls.length + (k - ls.length) = k by omega] at e2
              exact e2
        · obtain ⟨o, e, d⟩ := T.obj _ _ st8 b hb
          exact (I7.pin (b, o) (List.mem_append_right _ (List.mem_append_right _ (mem_pinsAt hb e)))).2.1
      cases ok with
      | false =>
        rw [if_neg Bool.false_ne_true] at q10 ⊢
        obtain ⟨m', hm, w'⟩ := q10
        exact bl I10 ⟨m', hm, ys, w'⟩
      | true =>
        rw [if_pos rfl] at q10 ⊢
        have q11 := heY _ s10 σ9 H10 _ I10 q10
        rw [pY, wY, AY, eY, xY] at q11
        refine thn q11 fun yv s11 hq41 => ?_
        obtain ⟨y, H11, I11, r11, hacc11, hz11, m', hm, w'⟩ := hq41
        have q12 := (mt_append (X := Y)) _ s11 σ9 H11 (.ref acc) [y] (.ref acc) [yv] (fun _ H' => H' = upd H11 acc (.lst (ys ++ [y]))) I11 rfl (.cons r11 .nil) ⟨acc, ys, y, rfl, rfl, hacc11, hz11, rfl⟩
        rw [pY, wY, AY, xY] at q12
        refine thn q12 fun _ s12 hq42 => ?_
        obtain ⟨_, H12, I12, _, e12⟩ := hq42
        subst e12
        exact bl I12 ⟨m', hm, _, w'⟩
  have L0 := loop _ ⟨0, _, I4, st4, fun b hb => (f3 b hb).1, m0, [], w0⟩
  refine codeAny_compStart_list L0 (T.self _ 0 _ _ _ st4 L0)
theorem pe_comp {ls fs : List Str} {fr : List Nat} {sc : Scope} {tg iter elt : Expr} {ifs : List Expr} {pos : Pos} {wi : TI} {g : TG} {tf : TFk} {te : TE}
    (hc : X.calm = true) (B : BlkOk X ls fs fr sc) (hi : PI X tg iter wi) (hg : ∀ cl C pn ex s H, PG (blk X (ls ++ fs) sc cl C pn ex s H) tg g) (hf : ∀ cl C pn ex s H, PIf (blk X (ls ++ fs) sc cl C pn ex s H) ifs tf) (he : ∀ cl C pn ex s H, PE (blk X (ls ++ fs) sc cl C pn ex s H) elt te)
    (hs : ∀ x, foldedSetIterable iter X.env x = pure x := by intro _; rfl) : PE X (.ListComp elt [⟨tg, iter, ifs, 0⟩] sc pos) (tComp ls.length fr wi g tf te) := by
  intro pins s σ H Q I h
  rw [eval_ListComp]
  refine run_comp (use := none) hc B hi hg hf he hs I h fun acc C s' H' I' hm fp q => ?_
  obtain ⟨m, hm⟩ := hm
  obtain ⟨f0, f1, _, f3, f4, f5⟩ := fp
  exact ⟨m, hm, fun h' hsb => ⟨.ref acc, H', I'.turned (t' := s'.toks) (fun b o hb e => (hsb.2 b hb).trans e) f0 f1 f3 f4 f5, rfl, q⟩⟩
theorem ps_setComp {i : Nat} {x : Str} {ls fs : List Str} {fr : List Nat} {sc : Scope} {tg iter elt : Expr} {ifs : List Expr} {pos spos pos' : Pos} {wi : TI} {g : TG} {tf : TFk} {te : TE} (hN : X.N.Nodup) (hx0 : X.N[i]? = some x) (hx : X.env.scope.names.lookup x = some .local)
    (hc : X.calm = true) (B : BlkOk X ls fs fr sc) (hi : PI X tg iter wi) (hg : ∀ cl C pn ex s H, PG (blk X (ls ++ fs) sc cl C pn ex s H) tg g) (hf : ∀ cl C pn ex s H, PIf (blk X (ls ++ fs) sc cl C pn ex s H) ifs tf) (he : ∀ cl C pn ex s H, PE (blk X (ls ++ fs) sc cl C pn ex s H) elt te)
    (hsw : swapsWith (.ListComp elt [⟨tg, iter, ifs, 0⟩] sc pos) (some (.Name x pos')) spos.line X.env = pure true)
    (hs : ∀ x, foldedSetIterable iter X.env x = pure x := by intro _; rfl) : PS X (.Assign [.Name x pos'] (.ListComp elt [⟨tg, iter, ifs, 0⟩] sc pos) spos) (tAsg (tComp ls.length fr wi g tf te) (gName i)) := by
  intro pins s σ H D I h
  rw [exec_Assign_Name_used _ _ _ _ hsw]; refine wpAny_bind (wpAny_standAt (wpAny_bind ?_))
  show wpAny _ X.A (do let _ ← comprehension (.ListComp elt [⟨tg, iter, ifs, 0⟩] sc pos) sc X.env _ (newList []) false (eval iter X.env) (some (assign (.Name x pos') X.env))) _ _ s
  refine wpAny_bind (wpAny_mono (run_comp (use := some (assign (.Name x pos') X.env)) (Qv := fun _ s' => SP X pins D .next s') hc B hi hg hf he hs I h fun acc C s' H' I' hm fp q => ?_) (fun _ s' hq => wpAny_pure (wpAny_pure hq)) fun _ _ e => e)
  obtain ⟨m, hm⟩ := hm
  obtain ⟨f0, f1, _, f3, f4, f5⟩ := fp
  refine wpAny_assign_Name (store_ok2 I' hN hx0 (.inl hx) (v := .ref acc) rfl (fun s'' I'' hsb => ?_) (.inr hx))
  obtain ⟨a, hsb, ha⟩ := hsb
  have haC : a ≠ C := by
    rcases ha with rfl | ha
    · exact Ne.symm f1
    · exact f4 x a ha
  exact ⟨m, hm.sameBut hsb (Ne.symm haC), fun h' hs' => ⟨_, H', I''.turned (t' := s''.toks) (fun b o hb e => (hs'.2 b hb).trans e) f0 f1 f3 f4 f5, q⟩⟩
end
end L3
end
section
set_option Elab.async false
set_option linter.all false
set_option maxRecDepth 100000
set_option maxHeartbeats 3999999
namespace L3
open PySem PySem.Spec PyProof.Rows L2
noncomputable def chk (outer : List (Str × NameKind)) (sc : Scope) (N ls fs : List Str) (fr : List Nat) : Bool :=
  (sc.kind == .function) && decide (ls ++ fs).Nodup && sc.names.all (fun x => decide (sc.names.lookup x.1 = some x.2)) &&
  sc.names.all (fun x => decide (x.2 = .free → (outer.lookup x.1 = some .cell ∨ outer.lookup x.1 = some .free))) && decide (fr.length = fs.length) &&
  (fs.zip fr).all (fun x => decide (N[x.2]? = some x.1) && sc.names.contains (x.1, NameKind.free) && decide (sc.names.lookup x.1 = some .free))
theorem chk_ok {X : Cx} {ls fs : List Str} {fr : List Nat} {sc : Scope} (h : chk X.env.scope.names sc X.N ls fs fr = true) : BlkOk X ls fs fr sc := by
  unfold chk at h
  simp only [Bool.and_eq_true, List.all_eq_true, decide_eq_true_eq] at h
  obtain ⟨⟨⟨⟨⟨h1, h2⟩, h3⟩, h5⟩, h6⟩, h7⟩ := h
  refine ⟨eq_of_beq h1, h2, h3, h5, fun k x e => ?_, h6⟩
  have hk : k < fs.length := (List.getElem?_eq_some_iff.mp e).1
  have hm : (x, fr[k]'(by omega)) ∈ fs.zip fr := by
    have : (fs.zip fr)[k]? = some (x, fr[k]'(by omega)) := by
      rw [List.getElem?_zip_eq_some]
      exact ⟨e, by simp⟩
    exact List.mem_of_getElem? this
  obtain ⟨⟨a, b⟩, c⟩ := h7 _ hm
  exact ⟨fr[k]'(by omega), by simp, a, by simpa using b, c⟩
noncomputable abbrev GE := D → DEnv → (DEnv → Prop) → Prop
noncomputable def liftGE (K : PySem.W.Frag) (nl n : Nat) (g : GE) : TG := fun v σ H Q => ∃ (S : Addr → Prop) (ρ : DEnv) (d : D) (Q3 : DEnv → Prop), σ.length = n ∧ (∀ a, H a = none → S a) ∧ Sl K S H ρ σ ∧ Dn K S H d v ∧ g d ρ Q3 ∧
  ∀ σ' ρ', Sl K S H ρ' σ' → σ'.drop nl = σ.drop nl → Q3 ρ' → Q σ' H
noncomputable def PG4 (X : Cx) (nl : Nat) (tg : Expr) (g : GE) : Prop := PG X tg (liftGE X.K nl X.N.length g)
theorem Sl.set {K : PySem.W.Frag} {S : Addr → Prop} {H : Hp} {ρ : DEnv} {σ : L2.St} {i : Nat} {d : D} {v : V} (h : Sl K S H ρ σ) (hi : i < σ.length) (q : Dn K S H d v) : Sl K S H (ρ.set i (some d)) (σ.set i (some v)) := fun j e he => by
  rcases get_set he with ⟨hj, z, _⟩ | ⟨hj, z⟩
  · cases z
    subst hj
    exact ⟨v, List.getElem?_set_self hi, q⟩
  · obtain ⟨u, a, b⟩ := h j e z
    exact ⟨u, by rw [List.getElem?_set_ne (Ne.symm hj)]; exact a, b⟩
noncomputable def hN (i : Nat) : GE := fun d ρ Q => Q (ρ.set i (some d))
noncomputable def h2 (i j : Nat) : GE := fun d ρ Q => match d with
  | .tup [d1, d2] => Q ((ρ.set i (some d1)).set j (some d2))
  | _ => False
theorem drop_set {α : Type} {l : List α} {i n : Nat} {x : α} (h : i < n) : (l.set i x).drop n = l.drop n := by
  rw [List.drop_set, if_pos h]
section
variable {X : Cx}
theorem bname {nl i : Nat} {x : Str} {pos : Pos} (nd : X.N.Nodup) (hil : i < nl) (hi : X.N[i]? = some x := by rfl) (hx : Loc X.env.scope x := by first | exact .inl rfl | exact .inr rfl) (hfx : X.fn x = true ∨ X.env.scope.names.lookup x = some .local := by first | exact .inr rfl | exact .inl rfl) : PG4 X nl (.Name x pos) (hN i) :=
  impG (pg_name nd hi hx hfx) fun v σ H Q hq43 => by obtain ⟨S, ρ, d, Q3, hl, fc, sl, dn, hg, k⟩ := hq43; exact k _ _ (sl.set (by rw [hl]; exact ix_lt hi) dn) (drop_set hil) hg
noncomputable def PIf3 (X : Cx) (ifs : List Expr) (t : WT) : Prop := PIf X ifs (liftT X.K t)
noncomputable def wTrue : WT := fun _ Q => Q true
theorem noif : PIf3 X [] wTrue := fun pins s σ H Q I hq44 => by obtain ⟨S, ρ, Q3, fc, sl, ht, k⟩ := hq44; exact if_none pins s σ H Q I (k true H (Same.refl H) ht)
theorem oneif {c : Expr} {t : WT} (h : PT3 X c t) : PIf3 X [c] t := if_one h
noncomputable def compW (g : GE) (tf : WT) (te : WE) (ρ : DEnv) : List D → List D → (D → Prop) → Prop
  | [], acc, Q => Q (.lst acc)
  | d :: r, acc, Q => g d ρ fun ρ2 => tf ρ2 fun b => if b = true then te ρ2 fun y => acc.length < sizeLine ∧ compW g tf te ρ r (acc ++ [y]) Q else compW g tf te ρ r acc Q
noncomputable def benv (nl : Nat) (fr : List Nat) (ρ : DEnv) : DEnv := List.replicate nl none ++ fr.map fun j => (ρ[j]?).join
noncomputable def wComp (nl : Nat) (fr : List Nat) (ti : WI) (g : GE) (tf : WT) (te : WE) : WE := fun ρ Q => ti ρ fun ds => compW g tf te (benv nl fr ρ) ds [] Q
theorem sl_benv {K : PySem.W.Frag} {S : Addr → Prop} {H : Hp} {ρ : DEnv} {σ : L2.St} {nl : Nat} {fr : List Nat} (h : Sl K S H ρ σ) : Sl K S H (benv nl fr ρ) (bst nl fr σ) := fun i d e => by
  unfold benv at e
  unfold bst
  by_cases hi : i < nl
  · rw [List.getElem?_append_left (by simpa using hi), List.getElem?_replicate, if_pos hi] at e
    cases e
  · rw [List.getElem?_append_right (by simpa using hi), List.getElem?_map, List.length_replicate] at e ⊢
    cases q : fr[i - nl]? with
    | none => rw [q] at e; cases e
    | some j =>
      rw [q] at e
      have e1 : (ρ[j]?).join = some d := Option.some.inj e
      have e2 : ρ[j]? = some (some d) := by
        cases z : ρ[j]? with
        | none => rw [z] at e1; cases e1
        | some o => rw [z] at e1; rw [show o = some d from e1]
      obtain ⟨v, ev, dv⟩ := h j d e2
      exact ⟨v, by show some ((σ[j]?).join) = _; rw [ev]; rfl, dv⟩
theorem lift_comp {K : PySem.W.Frag} {nl n : Nat} {fr : List Nat} {ti : WI} {g : GE} {tf : WT} {te : WE} {σ : L2.St} {H : Hp} {Q : VK} (hn : nl + fr.length = n) (h : liftF K (wComp nl fr ti g tf te) σ H Q) : tComp nl fr (liftI K ti) (liftGE K nl n g) (liftT K tf) (lift K te) σ H Q := by
  obtain ⟨S, ρ, Q3, fc, sl, ht, k⟩ := h
  refine ⟨S, ρ, _, fc, sl, ht, fun J H1 ds G s1 hG wk q1 => ?_⟩
  intro acc hacc
  have h0 : H acc = none := s1.free hacc
  have fc1 := fc_same fc s1
  have ok : ∀ {H2 : Hp}, Same H1 H2 → (∃ ys, H2 acc = some (.lst ys)) → (∀ a, H2 a = none → S a ∧ a ≠ acc) ∧ Sl K (fun a => S a ∧ a ≠ acc) H2 (benv nl fr ρ) (bst nl fr σ) ∧ ∀ g ∈ G, Dn K (fun a => S a ∧ a ≠ acc) H2 g.1 g.2 := fun {H2} s2 hy => by
    refine ⟨fun a e => ⟨fc_same fc1 s2 a e, fun z => ?_⟩, ?_, fun g hg => Dn.fits ((Fits.fresh hacc).trans (.same s2)) _ _ (hG g hg)⟩
    · subst z
      obtain ⟨ys, hy⟩ := hy
      rw [e] at hy; cases hy
    · exact sl_benv (Sl.fits ((Fits.fresh h0).trans (.same (s1.trans s2))) sl)
  refine ⟨fun i m H2 ys => m = ds.length - i ∧ i ≤ ds.length ∧ Same H1 H2 ∧ H2 acc = some (.lst ys) ∧ ∃ aD, Dns K (fun a => S a ∧ a ≠ acc) H2 aD ys ∧ compW g tf te (benv nl fr ρ) (ds.drop i) aD Q3,
    ⟨_, rfl, Nat.zero_le _, same_upd hacc, upd_same, [], Dns.nil, q1⟩, ?_⟩
  rintro i m H2 ys ⟨rfl, hi, s2, hy, aD, dn, cw⟩
  obtain ⟨fc2, sl2, gh2⟩ := ok s2 ⟨ys, hy⟩
  refine ⟨hy, ?_⟩
  by_cases hlt : i < ds.length
  · refine .inr ?_
    obtain ⟨g1, g2⟩ := wk.go _ H2 fc2 gh2 i ds[i] (by simp [hlt])
    refine ⟨g1, fun x H' y => ?_⟩
    obtain ⟨s3, dx⟩ := g2 x H' y
    rw [List.drop_eq_getElem_cons hlt, compW] at cw
    refine ⟨fun a => S a ∧ a ≠ acc, benv nl fr ρ, ds[i], _, ?_, fc_same fc2 s3, Sl.fits (.same s3) sl2, dx, cw, fun σ' ρ' sl' hd q' => ?_⟩
    · unfold bst; rw [List.length_append, List.length_replicate, List.length_map]; exact hn
    · refine ⟨by rw [hd]; unfold bst; rw [List.drop_append_of_le_length (by simp), List.drop_replicate]; simp, fun a => S a ∧ a ≠ acc, ρ', _, fc_same fc2 s3, sl', q', fun b H3 s4 q4 => ?_⟩
      cases b with
      | false =>
        rw [if_neg Bool.false_ne_true] at q4 ⊢
        exact ⟨_, by omega, rfl, hlt, (s2.trans s3).trans s4, (s3.trans s4) _ _ hy, aD, Dns.fits (.same (s3.trans s4)) _ _ dn, q4⟩
      | true =>
        rw [if_pos rfl] at q4 ⊢
        refine ⟨fun a => S a ∧ a ≠ acc, ρ', _, fc_same fc2 (s3.trans s4), Sl.fits (.same s4) sl', q4, fun v H4 d s5 d5 q5 => ?_⟩
        have hy4 : H4 acc = some (.lst ys) := ((s3.trans s4).trans s5) _ _ hy
        have F : Fits K (fun a => S a ∧ a ≠ acc) (fun a => S a ∧ a ≠ acc) H4 (upd H4 acc (.lst (ys ++ [v]))) := .upd (.inl ⟨_, hy4⟩) fun z => z.2 rfl
        refine ⟨hy4, by rw [← dn.len]; exact q5.1, _, by omega, rfl, hlt, fun b u hb => ?_, upd_same, aD ++ [d], Dns.fits F _ _ ((Dns.fits (.same ((s3.trans s4).trans s5)) _ _ dn).append (Dns.one d5)), q5.2⟩
        rw [upd_ne (ne_of_none hb hacc)]
        exact (((s2.trans s3).trans s4).trans s5) _ _ hb
  · have e : i = ds.length := by omega
    subst e
    rw [List.drop_length, compW] at cw
    exact .inl ⟨wk.stop _ H2 gh2 _ rfl, k acc ys H2 aD h0 hy (s1.trans s2) dn cw⟩
theorem comp3 {ls fs : List Str} {fr : List Nat} {sc : Scope} {tg iter elt : Expr} {ifs : List Expr} {pos : Pos} {ti : WI} {g : GE} {tf : WT} {te : WE} (hc : X.calm = true) (hi : PI3 X tg iter ti)
    (hg : ∀ cl C pn ex s H, (blk X (ls ++ fs) sc cl C pn ex s H).N.Nodup → PG4 (blk X (ls ++ fs) sc cl C pn ex s H) ls.length tg g) (hf : ∀ cl C pn ex s H, PIf3 (blk X (ls ++ fs) sc cl C pn ex s H) ifs tf) (he : ∀ cl C pn ex s H, PE3 (blk X (ls ++ fs) sc cl C pn ex s H) elt te)
    (B : chk X.env.scope.names sc X.N ls fs fr = true := by rfl) (hs : ∀ x, foldedSetIterable iter X.env x = pure x := by intro _; rfl) : PF3 X (.ListComp elt [⟨tg, iter, ifs, 0⟩] sc pos) (wComp ls.length fr ti g tf te) :=
  imp (pe_comp (g := liftGE X.K ls.length (ls ++ fs).length g) (tf := liftT X.K tf) (te := lift X.K te) hc (chk_ok B) hi (fun cl C pn ex s H => hg cl C pn ex s H (chk_ok B).nd) hf he hs) fun σ H Q h => lift_comp (n := (ls ++ fs).length) (by rw [List.length_append, (chk_ok B).lenF]) h
theorem setCompR3 {i : Nat} {x : Str} {ls fs : List Str} {fr : List Nat} {sc : Scope} {tg iter elt : Expr} {ifs : List Expr} {pos spos pos' : Pos} {ti : WI} {g : GE} {tf : WT} {te : WE} (nd : X.N.Nodup) (hc : X.calm = true) (hi : PI3 X tg iter ti)
    (hg : ∀ cl C pn ex s H, (blk X (ls ++ fs) sc cl C pn ex s H).N.Nodup → PG4 (blk X (ls ++ fs) sc cl C pn ex s H) ls.length tg g) (hf : ∀ cl C pn ex s H, PIf3 (blk X (ls ++ fs) sc cl C pn ex s H) ifs tf) (he : ∀ cl C pn ex s H, PE3 (blk X (ls ++ fs) sc cl C pn ex s H) elt te)
    (hx0 : X.N[i]? = some x := by rfl) (hx : X.env.scope.names.lookup x = some .local := by rfl) (hsw : swapsWith (.ListComp elt [⟨tg, iter, ifs, 0⟩] sc pos) (some (.Name x pos')) spos.line X.env = pure true := by rfl)
    (B : chk X.env.scope.names sc X.N ls fs fr = true := by rfl) (hs : ∀ x, foldedSetIterable iter X.env x = pure x := by intro _; rfl) : PS3 X (.Assign [.Name x pos'] (.ListComp elt [⟨tg, iter, ifs, 0⟩] sc pos) spos) (wSet i (wComp ls.length fr ti g tf te)) :=
  impS (ps_setComp (g := liftGE X.K ls.length (ls ++ fs).length g) (tf := liftT X.K tf) (te := lift X.K te) nd hx0 hx hc (chk_ok B) hi (fun cl C pn ex s H => hg cl C pn ex s H (chk_ok B).nd) hf he hsw hs) fun Bd σ H hq45 => by
 obtain ⟨H₀, S, w, ρ, G, E, hl, st, ht, ok⟩ := hq45
 exact lift_comp (n := (ls ++ fs).length) (by rw [List.length_append, (chk_ok B).lenF]) ⟨_, vRd ρ, _, st.fcO, st.rd, ht, fun p xs H' ds hp hp' s' d' q' => ok.nx w _ H' _ (by rw [List.length_set]; exact hl) ((st.same s').set_ro (d := .lst ds) (by rw [hl]; exact ix_lt hx0) (by simp only [Dn]; exact ⟨p, xs, rfl, hp', st.fcO p hp, Dns.fits (.mono fun _ z => z.1) _ _ d'⟩)) q'⟩
end
end L3
end
section
set_option Elab.async false
set_option linter.all false
set_option maxRecDepth 100000
set_option maxHeartbeats 3999999
namespace L3
open PySem PySem.Spec PyProof.Rows L2
section
variable {X : Cx}
noncomputable def tyD : D → String
  | .non => "NoneType"
  | .bl _ => "bool"
  | .int _ => "int"
  | .str _ => "str"
  | .tup _ => "tuple"
  | .lst _ => "list"
  | .scr _ => "list"
  | .dic _ _ => "dict"
  | .dicT _ _ _ => "dict"
  | .exc _ _ => "NoneType"
inductive Ty4 : String → Prop
  | t : Ty4 "tuple"
  | b : Ty4 "bool"
  | i : Ty4 "int"
  | s : Ty4 "str"
noncomputable def isT (T : String) (d : D) : Bool := tyD d == T || (T == "int" && tyD d == "bool")
noncomputable def rIsi (K : PySem.W.Frag) (T : String) : List V → Hp → VK → Prop := fun xs H Q => ∃ x t b, xs = [x, .ty T] ∧ (TyOf K H x t ∨ (t = .type "tuple" ∧ ∃ a ys, x = .ref a ∧ SqT K H a ys) ∨ (t = .type "list" ∧ ∃ a ys, x = .ref a ∧ SqL K H a ys)) ∧ PySem.W.kitOne K t (.type T) = some b ∧ Q (.bl b) H
theorem call_isi {T : String} : CallR X (.builtin "isinstance") (rIsi X.K T) := by
  intro pins s σ H xs us Q I r h
  obtain ⟨x, t, b, rfl, ty, e, q⟩ := h
  obtain ⟨u, w', rfl, r1, r2⟩ := vals2 r
  obtain rfl : w' = Value.type T := r2
  rcases ty with ty | ⟨rfl, a, ys, rfl, hq⟩ | ⟨rfl, a, ys, rfl, hq⟩
  · exact isinst_ok I r1 ty e fun tk => ⟨.bl b, H, I.tok tk, rfl, q⟩
  · cases r1
    obtain ⟨its, _, p, _⟩ := I.tuple hq
    obtain ⟨o, h1, h2, _⟩ := p
    exact PySem.W.kia_one PySem.W.kitx_tuple I.kIn ⟨o, h1, h2⟩ e (fun z => nomatch z) fun tk => ⟨.bl b, H, I.tok tk, rfl, q⟩
  · cases r1
    obtain ⟨its, _, p, _⟩ := I.list hq
    obtain ⟨o, n, h1, h2, _⟩ := p
    exact PySem.W.kia_one PySem.W.kitx_list I.kIn ⟨o, h1, h2⟩ e (fun z => nomatch z) fun tk => ⟨.bl b, H, I.tok tk, rfl, q⟩
noncomputable def notEx : D → Prop
  | .exc _ _ => False
  | .dicT _ _ _ => False
  | _ => True
noncomputable def wIsi (T : String) (t : WE) : WE := fun ρ Q => t ρ fun d => notEx d ∧ Q (.bl (isT T d))
theorem kit4 {K : PySem.W.Frag} {T : String} (h : Ty4 T) (d : D) : PySem.W.kitOne K (.type (tyD d)) (.type T) = some (isT T d) := by
  cases h <;> cases d <;> with_unfolding_all rfl
theorem ty_of {K : PySem.W.Frag} {S : Addr → Prop} {H : Hp} {d : D} {v : V} (hne : notEx d) (h : Dn K S H d v) : ∃ t, t = Value.type (tyD d) ∧ (TyOf K H v t ∨ (t = .type "tuple" ∧ ∃ a ys, v = .ref a ∧ SqT K H a ys) ∨ (t = .type "list" ∧ ∃ a ys, v = .ref a ∧ SqL K H a ys)) := by
  refine ⟨_, rfl, ?_⟩
  cases d <;> simp only [Dn] at h
  · subst h; exact .inl .non
  · subst h; exact .inl (.bl _)
  · subst h; exact .inl (.int _)
  · subst h; exact .inl (.str _)
  · obtain ⟨a, xs, rfl, hq, _⟩ := h; exact .inr (.inl ⟨rfl, a, xs, rfl, (SqT.of hq)⟩)
  · obtain ⟨a, xs, rfl, hq, _⟩ := h; exact .inl (.lst hq)
  · obtain ⟨a, rfl, hq⟩ := h; exact .inr (.inr ⟨rfl, a, _, rfl, hq.sq⟩)
  · obtain ⟨a, xs, rfl, hq, _⟩ := h; exact .inl (.dK hq)
  · exact hne.elim
  · exact hne.elim
theorem isi3 {T : String} {x : Str} {e : Expr} {t : WE} {p p2 pos : Pos} (hT : Ty4 T) (hm : X.mg "isinstance" = none) (hmT : X.mg x = none) (hv : bootBuiltins x = some (.type T)) (he : PE3 X e t) (hg : Gl X "isinstance" := by rfl) (hgT : Gl X x := by rfl) (hn : x ≠ "__name__" := by decide) (hdb : (x == ("__debug__" : Str)) = false := by decide)
    (hs : starEach [e, .Name x p2] X.env = (false, eval e X.env) :: starEach [.Name x p2] X.env := by rfl) (hs2 : starEach [.Name x p2] X.env = (false, eval (.Name x p2) X.env) :: starEach [] X.env := by rfl) (hpl : (backTo pos (starEach [.Name x p2] X.env)).any (·.1) = false := by rfl) :
    PE3 X (.Call (.Name "isinstance" p) [e, .Name x p2] [] pos) (wIsi T t) :=
  imp (pe_callB (call_isi (T := T)) hg hm PyProof.Rows.boot_isinstance (pa_cons he (pa_cons (pe_bltn (v := .ty T) hgT hmT hv rfl hn hdb) pa_nil hs2) hs) (by decide) (by decide) hs hpl) fun σ H Q hq46 => by
    obtain ⟨S, ρ, Q3, fc, sl, ht, k⟩ := hq46
    refine ⟨S, ρ, _, fc, sl, ht, fun v H1 d s1 d1 q1 => ?_⟩
    obtain ⟨tt, e1, e2⟩ := ty_of q1.1 d1
    refine ⟨v, tt, isT T d, rfl, e2, ?_, k _ H1 (.bl _) s1 (by simp only [Dn]) q1.2⟩
    rw [e1]; exact kit4 hT d
noncomputable def blsOf : List D → Option (List Bool)
  | [] => some []
  | .bl b :: r => (blsOf r).map (b :: ·)
  | _ :: _ => none
theorem range_all (bs : List Bool) : (List.range bs.length).all (fun i => bs.getD i true) = bs.all id := by
  induction bs with
  | nil => rfl
  | cons b bs ih => rw [List.length_cons, List.range_succ_eq_map, List.all_cons, List.all_map, List.all_cons, ← ih]; rfl
noncomputable def blF (f : List Bool → Bool) : F1
  | [.lst ds], Q => (match blsOf ds with | some bs => Q (.bl (f bs)) | none => False)
  | _, _ => False
noncomputable def rSort : List V → Hp → VK → Prop := fun xs H Q => ∃ a ns, xs = [.ref a] ∧ H a = some (.lst (ns.map V.int)) ∧ ns.length < 64 ∧ ∀ ns' : List Int, ns'.Perm ns → ns'.Pairwise (· ≤ ·) → ∀ p, H p = none → Q (.ref p) (upd H p (.lst (ns'.map V.int)))
theorem call_sorted3 : CallR X (.builtin "sorted") rSort := by
  intro pins s σ H xs us Q I r h
  obtain ⟨a, ns, rfl, ha, h64, q⟩ := h
  obtain ⟨u, rfl, ru⟩ := vals1 r
  cases ru
  obtain ⟨its, rv, p, hz⟩ := I.list (SqL.of ha)
  have hi := intsAre_of rv
  have hlen : its.length = ns.length := by have := rv.length; rw [List.length_map] at this; exact this.symm
  refine sorted_ints p.isList hi (by omega) fun out ns' a1 a2 a3 => ?_
  have hfr : H (s.heap.objs.size + 1) = none := I.hok.fresh (Nat.le_succ _)
  obtain ⟨e1, hat⟩ := sortedAll_at s.heap its out
  have hz2 : ns'.length ≤ sizeLine := by rw [a2.length_eq, sizeLine_eq]; omega
  have I1 : Inv X pins σ (upd H (s.heap.objs.size + 1) (.lst (ns'.map V.int))) { s with heap := sortedAll s.heap its out } :=
    I.laid (t' := s.toks) (fun b o e => sortedAll_old e) (Nat.le_succ _) ⟨by rw [List.length_map]; exact hz2, out.toList, e1, vals_ints a1, by simpa [seqObj] using hat⟩
  exact ⟨.ref _, _, I1, rfl, q ns' a2 a3 _ hfr⟩
noncomputable def intsOf : List D → Option (List Int)
  | [] => some []
  | .int b :: r => (intsOf r).map (b :: ·)
  | _ :: _ => none
theorem intsOf_map : ∀ bs : List Int, intsOf (bs.map D.int) = some bs
  | [] => rfl
  | b :: bs => by rw [List.map_cons, intsOf, intsOf_map bs]; rfl
theorem intsOf_of : ∀ {ds : List D} {bs : List Int}, intsOf ds = some bs → ds = bs.map D.int
  | [], bs, h => by cases h; rfl
  | .int b :: r, bs, h => by
    rw [intsOf] at h
    cases q : intsOf r with
    | none => rw [q] at h; cases h
    | some cs => rw [q] at h; cases h; rw [List.map_cons, intsOf_of q]
  | .non :: r, bs, h => by cases h
  | .bl _ :: r, bs, h => by cases h
  | .str _ :: r, bs, h => by cases h
  | .tup _ :: r, bs, h => by cases h
  | .lst _ :: r, bs, h => by cases h
  | .scr _ :: r, bs, h => by cases h
  | .dic _ _ :: r, bs, h => by cases h
  | .dicT _ _ _ :: r, bs, h => by cases h
noncomputable def sortF : F1
  | [.lst ds], Q => (match intsOf ds with | some ns => ns.length < 64 ∧ ∀ ns' : List Int, ns'.Perm ns → ns'.Pairwise (· ≤ ·) → Q (.lst (ns'.map D.int)) | none => False)
  | _, _ => False
theorem c3_sort {K : PySem.W.Frag} : C3F K rSort sortF := by
  intro S H xs ds Q3 Q fc hd hf k
  match ds, hf with
  | [.lst es], hf =>
    obtain ⟨v, r, rfl, h1, h2⟩ := hd.uncons
    simp only [Dns] at h2
    subst h2
    simp only [Dn] at h1
    obtain ⟨a, ys, rfl, ha, sa, da⟩ := h1
    have hf2 : (match intsOf es with | some ns => ns.length < 64 ∧ ∀ ns' : List Int, ns'.Perm ns → ns'.Pairwise (· ≤ ·) → Q3 (.lst (ns'.map D.int)) | none => False) := hf
    clear hf
    cases q : intsOf es with
    | none => rw [q] at hf2; exact hf2.elim
    | some ns =>
      rw [q] at hf2
      have e := intsOf_of q
      subst e
      have e2 := Dns.ints.mp da
      subst e2
      exact ⟨a, ns, rfl, ha, hf2.1, fun ns' h1 h2 p hp => k p _ _ _ hp upd_same (same_upd hp) (Dns.ints.mpr rfl) (hf2.2 ns' h1 h2)⟩
theorem sorted3 {p pos : Pos} {e : Expr} {t : WA} (hm : X.mg "sorted" = none) (ha : PA3 X [e] t) (hg : Gl X "sorted" := by rfl)
    (he : starEach [e] X.env = (false, eval e X.env) :: starEach [] X.env := by rfl) : PF3 X (.Call (.Name "sorted" p) [e] [] pos) (wCB sortF t) := callBF3 call_sorted3 c3_sort PyProof.Rows.boot_sorted hg hm ha (by decide) (by decide) he (by rfl)
end
end L3
end
section
set_option Elab.async false
set_option linter.all false
namespace L3
open PySem PySem.Spec PyProof.Rows L2
section
variable {i j : Int} {a b : List D} {Q : D → Prop}
end
end L3
end
section
set_option Elab.async false
set_option linter.all false
set_option maxRecDepth 100000
set_option maxHeartbeats 3999999
namespace L3
open PySem PySem.Spec PyProof.Rows L2
section
variable {X : Cx}
theorem pe_range1 {a : Expr} {ta : TA} {p pos : Pos} (hg : Gl X "range") (hm : X.mg "range" = none) (ha : PA X [a] ta) (hs : starEach [a] X.env = [(false, eval a X.env)] := by rfl) :
    PE X (.Call (.Name "range" p) [a] [] pos) (fun σ H Q => ta σ H fun vs H1 => ∃ j : Int, vs = [.int j] ∧ ∀ p, H1 p = none → Q (.ref p) (upd H1 p (.rng 0 j))) := by
  intro pins s σ H Q I h
  refine Call_ (ld_blt I hg hm PyProof.Rows.boot_range (PyProof.Rows.callWith_type1 (thn (ha pos pins s σ H _ I h) fun us s1 ⟨vs, H1, I1, r1, q1⟩ => ?_) hs rfl))
  obtain ⟨j, e, q⟩ := q1
  subst e
  obtain ⟨u, rfl, ru⟩ := vals1 r1
  obtain ⟨t, rfl⟩ := ru
  refine call_range_1 ?_
  exact ⟨.ref s1.heap.objs.size, _, I1.laid (o := .rng 0 j) (fun b o e => Heap.get?_push_of_some _ e) (Nat.le_refl _) ⟨_, _, _, Heap.get?_push_size _ rfl⟩, rfl, q _ (I1.hok.fresh (Nat.le_refl _))⟩
theorem vals_rng {lo : Int} {n : Nat} {acc : Array Value} (h : ItemsOf (fun i v => ∃ t, v = .int (lo + (i : Nat) * 1) t) acc n) : Vals ((rngI lo n).map V.int) acc.toList := by
  obtain ⟨hz, hv⟩ := h
  have key : ∀ (l : List Value) (k : Nat) (m : Nat), l.length = m → (∀ (j : Nat) (v : Value), l[j]? = some v → ∃ t, v = Value.int (lo + ((k + j : Nat) : Int)) t) → Vals (((List.range' k m).map fun i : Nat => lo + (i : Int)).map V.int) l := by
    intro l
    induction l with
    | nil => intro k m hm _; subst hm; exact .nil
    | cons v l ih =>
      intro k m hm hh
      subst hm
      rw [List.length_cons, List.range'_succ, List.map_cons, List.map_cons]
      refine .cons ?_ (ih (k + 1) l.length rfl fun j w e => ?_)
      · obtain ⟨t, e⟩ := hh 0 v (by simp)
        exact ⟨t, by simpa using e⟩
      · obtain ⟨t, e2⟩ := hh (j + 1) w (by simpa using e)
        exact ⟨t, by rw [e2]; congr 1; congr 1; congr 1; omega⟩
  have := key acc.toList 0 n (by simpa using hz) fun j v e => by
    obtain ⟨t, e2⟩ := hv j v (by simpa using e)
    exact ⟨t, by rw [e2]; simp⟩
  unfold rngI
  rw [List.range_eq_range']
  exact this
theorem call_list_rng (hc : X.calm = true) : CallR X (.type "list") (fun xs H Q => ∃ p j, xs = [.ref p] ∧ H p = some (.rng 0 j) ∧ -(2 ^ 62) ≤ j ∧ j ≤ 16777216 ∧ ∀ l, H l = none → Q (.ref l) (upd H l (.lst ((rngI 0 j.toNat).map V.int)))) := by
  intro pins s σ H xs us Q I r h
  obtain ⟨p, j, rfl, hp, h0, h1, q⟩ := h
  obtain ⟨u, rfl, ru⟩ := vals1 r
  cases ru
  obtain ⟨t, u, v, e⟩ := I.hok p _ hp
  have hsz : Builtin.Range.rangeSize 0 j 1 = (j.toNat : Int) := by rw [rangeSize_one]; split <;> omega
  refine call_list_range (a := 0) (b := j) (c := 1) (n := j.toNat) (I.ok.hd hc) e (small_one (by omega) (by omega) (by omega) (by omega)) hsz (by omega) fun h' tk acc' c' kp hn hit => ?_
  have hfr : H s.heap.objs.size = none := I.hok.fresh (Nat.le_refl _)
  have hv : Vals ((rngI 0 j.toNat).map V.int) acc'.toList := vals_rng hit
  refine ⟨.ref s.heap.objs.size, _, I.laid (o := .lst ((rngI 0 j.toNat).map V.int)) kp (Nat.le_refl _) ⟨?_, acc'.toList, c', hv, by simpa using hn⟩, rfl, q _ hfr⟩
  rw [List.length_map, rngI_length, sizeLine_eq]
  omega
noncomputable def wListR (t : WA) : WE := fun ρ Q => t ρ fun ds => match ds with
  | [.int j] => (-(2 ^ 62) ≤ j ∧ j ≤ 16777216) ∧ Q (.lst ((rngI 0 j.toNat).map D.int))
  | _ => False
theorem listRange3 {a : Expr} {t : WA} {p pos p2 pos2 : Pos} (hc : X.calm = true) (hm : X.mg "list" = none) (hmr : X.mg "range" = none) (ha : PA3 X [a] t) (hg : Gl X "list" := by rfl) (hgr : Gl X "range" := by rfl) (hs : starEach [a] X.env = [(false, eval a X.env)] := by rfl)
    (he : starEach [.Call (.Name "range" p2) [a] [] pos2] X.env = (false, eval (.Call (.Name "range" p2) [a] [] pos2) X.env) :: starEach [] X.env := by rfl) :
    PF3 X (.Call (.Name "list" p) [.Call (.Name "range" p2) [a] [] pos2] [] pos) (wListR t) :=
  imp (pe_callTy (call_list_rng hc) hg hm PyProof.Rows.boot_list (pa_cons (pe_range1 hgr hmr ha hs) pa_nil he) (by decide) (by decide) he (by rfl)) fun σ H Q hq47 => by
    obtain ⟨S, ρ, Q3, fc, sl, ht, k⟩ := hq47
    refine ⟨S, ρ, _, fc, sl, ht, fun vs H1 ds s1 d1 q1 => ?_⟩
    split at q1
    · rename_i j
      obtain ⟨v, r, rfl, h1, h2⟩ := d1.uncons
      simp only [Dns] at h2
      subst h2
      simp only [Dn] at h1
      subst h1
      refine ⟨j, rfl, fun p hp => ⟨p, j, rfl, upd_same, q1.1.1, q1.1.2, fun l hl => ?_⟩⟩
      have hl1 : H1 l = none := (same_upd hp).free hl
      exact k l _ _ _ (s1.free hl1) upd_same ((s1.trans (same_upd hp)).trans (same_upd hl)) (Dns.ints.mpr rfl) q1.2
    · exact q1.elim
noncomputable def lookD (ks : List Key) (ds : List D) (k : Key) : Option D := ((ks.zip ds).find? fun kv => decide (kv.1 = k)).map (·.2)
theorem look_rel {K : PySem.W.Frag} {S : Addr → Prop} {H : Hp} {k : Key} : ∀ {ks : List Key} {ds : List D} {xs : List V}, ks.length = xs.length → Dns K S H ds xs →
    (∀ d, lookD ks ds k = some d → ∃ v, valV (ks.zip xs) k = some v ∧ Dn K S H d v) ∧ (lookD ks ds k = none → valV (ks.zip xs) k = none)
  | [], ds, xs, _, _ => by
    refine ⟨fun d e => ?_, fun _ => ?_⟩
    · simp [lookD] at e
    · simp [valV]
  | q :: ks, ds, xs, hl, dn => by
    cases ds with
    | nil => simp only [Dns] at dn; subst dn; simp at hl
    | cons d0 ds =>
      obtain ⟨v, r, rfl, h1, h2⟩ := dn.uncons
      have ih := look_rel (k := k) (ks := ks) (ds := ds) (xs := r) (by simpa using hl) h2
      by_cases e : q = k
      · refine ⟨fun d ed => ?_, fun ed => ?_⟩
        · simp only [lookD, List.zip_cons_cons, List.find?_cons, e, decide_true, Option.map_some] at ed
          cases ed
          exact ⟨v, by simp [valV, e], h1⟩
        · simp [lookD, e] at ed
      · refine ⟨fun d ed => ?_, fun ed => ?_⟩
        · have ed' : lookD ks ds k = some d := by simpa [lookD, e] using ed
          obtain ⟨u, eu, du⟩ := ih.1 d ed'
          exact ⟨u, by simpa [valV, e] using eu, du⟩
        · have ed' : lookD ks ds k = none := by simpa [lookD, e] using ed
          simpa [valV, e] using ih.2 ed'
theorem ownDict3 {i : Nat} {x : Str} {pos pos' p : Pos} (hN : X.N.Nodup) (hi : X.N[i]? = some x := by rfl) (hx : Loc X.env.scope x := by first | exact .inl rfl | exact .inr rfl) (hs : swapsWith (.Dict [] [] p) (some (.Name x pos')) pos.line X.env = pure false := by rfl) (hf : X.fn x = true ∨ X.env.scope.names.lookup x = some .local := by first | exact .inl rfl | exact .inr rfl) :
    PS3 X (.Assign [.Name x pos'] (.Dict [] [] p) pos) (fun E ρ => E.nx (ρ.set i (.ow (.dic [] [])))) := impS (ps_set hN hi hx pe_dnewK hs hf) fun B σ H ⟨H₀, S, w, ρ, G, E, hl, st, ht, ok⟩ => fun p hp =>
  ok.nx _ _ _ _ (by rw [List.length_set]; exact hl) (st.set_ow (d := .dic [] []) (by rw [hl]; exact ix_lt hi) (same_upd hp) hp ⟨[], upd_same, rfl, Dns.nil⟩) ht
noncomputable def keyD : D → Option Key
  | .int i => some (.inl i)
  | .str x => some (.inr x)
  | _ => none
theorem key_dn {K : PySem.W.Frag} {S : Addr → Prop} {H : Hp} {d : D} {v : V} {k : Key} (h : Dn K S H d v) (e : keyD d = some k) : v = kV k := by
  cases d <;> simp only [keyD] at e <;> cases e <;> simp only [Dn] at h <;> exact h
noncomputable def ixDF : F2 := fun x y Q => match x, keyD y with
  | .dic ks ds, some k => (match lookD ks ds k with | some d => Q d | none => False)
  | _, _ => False
theorem ixD3 {o i : Expr} {pos : Pos} {to ti : WE} (hu : X.A.units + 1 < cLine) (ho : PE3 X o to) (hi : PE3 X i ti) (hs : NoSl i := by intro _ _; rfl) : PE3 X (.Subscript o i pos) (wBin ixDF to ti) := imp (pe_dget hu ho hi hs) fun σ H Q hq48 => by
  obtain ⟨S, ρ, Q3, fc, sl, ht, k⟩ := hq48
  refine ⟨S, ρ, _, fc, sl, ht, fun v H1 d s1 d1 q1 => ?_⟩
  refine ⟨S, ρ, _, fc_same fc s1, Sl.fits (.same s1) sl, q1, fun u H2 d2 s2 dn2 q2 => ?_⟩
  unfold ixDF at q2
  split at q2
  · rename_i ks ds kk ek
    have d1' := Dn.fits (.same s2) _ _ d1
    simp only [Dn] at d1'
    obtain ⟨a, xs, rfl, ha, sa, hl, da⟩ := d1'
    split at q2
    · rename_i d3 e3
      obtain ⟨v3, ev, dv⟩ := (look_rel hl da).1 d3 e3
      have eu := key_dn dn2 ek
      subst eu
      refine ⟨a, v3, rfl, ?_, k v3 H2 d3 (s1.trans s2) dv q2⟩
      have g := DGet.k (k := kk) ha
      rw [ev] at g
      exact g
    · exact q2.elim
  · exact q2.elim
noncomputable def wPutN (i : Nat) (t : WX) (tk : WE) : WS := fun E ρ => t ρ fun ρ' d => (match ρ'[i]? with | some (.ow (.dic _ _)) => True | _ => False) ∧ tk (vAll ρ') fun kd => match ρ'[i]?, keyD kd with
  | some (.ow (.dic ks ds)), some k => (lookD ks ds k = none ∧ ds.length < sizeLine) ∧ E.nx (ρ'.set i (.ow (.dic (ks ++ [k]) (ds ++ [d]))))
  | _, _ => False
theorem putN3 {i : Nat} {x : Str} {e k : Expr} {t : WX} {tk : WE} {pos pos' p : Pos} (hu : X.A.units + 1 < cLine) (he : PX3 X e t) (hk : PE3 X k tk)
    (hN : X.N[i]? = some x := by rfl) (hv : Vis X.env.scope x := by first | exact Or.inl rfl | exact Or.inr (Or.inl rfl) | exact Or.inr (Or.inr rfl)) (hd : (x == ("__debug__" : Str)) = false := by decide) (hcd : (x == ("__classdict__" : Str)) = false := by decide)
    (hs : swapsWith e (some (.Subscript (.Name x p) k pos')) pos.line X.env = pure false := by rfl) :
    PS3 X (.Assign [.Subscript (.Name x p) k pos'] e pos) (wPutN i t tk) := impS (ps_dput hu (pe_var hN hv hd hcd) hk he hs) fun B σ H hq49 => by
  obtain ⟨H₀, S, w, ρ, G, E, hl, st, ht, ok⟩ := hq49
  refine ⟨H₀, S, w, ρ, G, _, hl, st, ht, fun w' v H' ρ' d st' d' q' => ?_⟩
  obtain ⟨q0, q'⟩ := q'
  split at q0
  · rename_i ks0 ds0 e0
    obtain ⟨a0, _, _⟩ := st'.own i _ e0
    refine ⟨_, a0, S, vAll ρ', _, st'.fcH, st'.all, q', fun kv H2 dk s2 dk2 q2 => ?_⟩
    split at q2
    · rename_i ks ds kk e1 ek
      have st2 := st'.same s2
      obtain ⟨a, b, c⟩ := st2.own i _ e1
      obtain ⟨xs, hp, hlen, dn⟩ := c
      have eu := key_dn dk2 ek
      subst eu
      have hno := (look_rel (k := kk) hlen dn).2 q2.1.1
      have nS : ¬ SO S w' ρ' (w' i) := fun ⟨_, z⟩ => z i _ e1 rfl
      have hz : (ks.zip xs).length < sizeLine := by
        rw [List.length_zip, hlen, Nat.min_self, ← dn.len]; exact q2.1.2
      have eput : putK (ks.zip xs) kk v = (ks ++ [kk]).zip (xs ++ [v]) := by
        rw [putK_new v hno, List.zip_append hlen]; rfl
      have F : Fits X.K (SO S w' ρ') (SO S w' ρ') H2 (upd H2 (w' i) (.dK (putK (ks.zip xs) kk v))) := .upd (.inr (.inl ⟨_, hp⟩)) nS
      refine ⟨w' i, _, rfl, DPut.k hp hz, ok.nx w' σ _ _ hl (st2.write (d' := .dic (ks ++ [kk]) (ds ++ [d])) e1 ⟨xs ++ [v], ?_, by simp [hlen], Dns.fits F _ _ (dn.append (Dns.one (Dn.fits (.same s2) _ _ d')))⟩) q2.2⟩
      rw [upd_same, eput]
    · exact q2.elim
  · exact q0.elim
noncomputable def wSetF (i : Nat) (t : WE) : WS := fun E ρ => t (vAll ρ) fun d => (match d with | .lst ds => imms ds = true | _ => False) ∧ E.nx (ρ.set i (.ro d))
theorem setF3 {i : Nat} {x : Str} {e : Expr} {t : WE} {pos pos' : Pos} (hN : X.N.Nodup) (he : PF3 X e t) (hi : X.N[i]? = some x := by rfl) (hx : Loc X.env.scope x := by first | exact .inl rfl | exact .inr rfl) (hs : swapsWith e (some (.Name x pos')) pos.line X.env = pure false := by rfl) (hf : X.fn x = true ∨ X.env.scope.names.lookup x = some .local := by first | exact .inl rfl | exact .inr rfl) :
    PS3 X (.Assign [.Name x pos'] e pos) (wSetF i t) := impS (ps_set hN hi hx he hs hf) fun B σ H hq50 => by
 obtain ⟨H₀, S, w, ρ, G, E, hl, st, ht, ok⟩ := hq50
 exact ⟨_, vAll ρ, _, st.fcH, st.all, ht, fun p xs H' ds hp hp' s' d' q' => ok.nx w _ H' _ (by rw [List.length_set]; exact hl) ((st.same s').set_ro (d := .lst ds) (by rw [hl]; exact ix_lt hi) (by simp only [Dn]; exact ⟨p, xs, rfl, hp', st.fcO p hp, Dns.imm q'.1 d'⟩)) q'.2⟩
noncomputable def extF : List D → D → (List D → D → Prop) → Prop
  | ds, .lst es, Q => ds.length + es.length ≤ sizeLine ∧ Q (ds ++ es) .non
  | _, _, _ => False
theorem m3_ext {K : PySem.W.Frag} : M3 K rExtend extF := by
  intro S H p xs ds y d Q3 Q hp dn dy hf k
  cases d with
  | lst es =>
    simp only [Dn] at dy
    obtain ⟨b, zs, rfl, hb, sb, db⟩ := dy
    exact ⟨p, b, xs, zs, rfl, rfl, hp, hb, by rw [← dn.len, ← db.len]; exact hf.1, k _ _ _ _ (dn.append db) (by simp only [Dn]) hf.2⟩
  | _ => exact hf.elim
section
variable {i : Nat} {x : Str} {e : Expr} {p apos cpos : Pos} {t : WX}
theorem extend3 (he : PX3 X e t) (hN : X.N[i]? = some x := by rfl) (hv : Vis X.env.scope x := by first | exact Or.inl rfl | exact Or.inr (Or.inl rfl) | exact Or.inr (Or.inr rfl)) (hd : (x == ("__debug__" : Str)) = false := by decide) (hcd : (x == ("__classdict__" : Str)) = false := by decide)
    (hbase : attributeBase (.Name x p) "extend" X.env (eval (.Name x p) X.env) = eval (.Name x p) X.env := by rfl)
    (hfew : ((backTo cpos (starEach [e] X.env)).all (fun x => !x.1) && (backToKw cpos (keywordEach [] X.env)).all (fun x => x.1.isSome)
      && decide ([e].length + ([] : List Keyword).length + (if ([] : List Keyword).isEmpty then 0 else 1) < 30)) = true := by rfl)
    (hline : (apos.endLine == cpos.line) = true := by rfl) (hs : starEach [e] X.env = (false, eval e X.env) :: starEach [] X.env := by rfl) :
    PX3 X (.Call (.Attribute (.Name x p) "extend" apos) [e] [] cpos) (wM1 i extF t) := m1 PySem.F.slot_list_extend PySem.F.type_list_extend mt_extend m3_ext he hN hv hd hcd hbase hfew hline hs
end
end
end L3
end
section
set_option Elab.async false
set_option linter.all false
set_option maxRecDepth 100000
set_option maxHeartbeats 3999999
namespace L3
open PySem PySem.Spec PyProof.Rows L2
section
variable {X : Cx} {pins : List (Addr × Obj)} {σ : L2.St} {H : Hp} {s : Shared} {h' : Heap}
theorem turnM {t' : Nat} {ch : List Addr} (I : Inv X pins σ H s) (k : ∀ b o, b ∉ ch → s.heap.get? b = some o → h'.get? b = some o) (hf : ∀ b ∈ ch, FpOk X pins H b) : Inv X pins σ H { s with heap := h', toks := t' } := by
  have live : ∀ {b : Addr} {u : HO}, H b = some u → b ∉ ch := fun {b} {u} e z => by rw [(hf _ z).1] at e; cases e
  refine I.call' (s' := { s with heap := h', toks := t' }) (ch := ch) rfl ⟨fun b o e _ _ hx => k b o hx e, fun b o e _ _ hx => ⟨o.slots, k b o hx e⟩, fun b o e n _ => n, fun b o e hx => ⟨o, k b o hx e⟩,
    fun b ys e => e, fun b o u e => e, fun b ps e => ⟨#[], by rw [e]; simp⟩⟩ ?_ I.bare fun b hb => ?_
  · intro b u e
    refine (I.hok b u e).stay (fun c v hc q => k c v ?_ q) (fun c q => q) fun c ys q => q
    rcases hc with rfl | hc
    · exact live e
    · exact live hc
  · obtain ⟨_, f1, _, f3, f4, f5⟩ := hf b hb
    exact ⟨f3, f1, f4, f5⟩
end
section
variable {prog : Program} {w : World} {A : Around} {E : Value → Shared → Prop} {s : Shared}
end
section
variable {X : Cx} {es : List Expr} {kk : Nat} {tp : Pos}
end
end L3
end
section
set_option Elab.async false
set_option linter.all false
set_option maxRecDepth 100000
set_option maxHeartbeats 3999999
namespace L3
open PySem PySem.Spec PyProof.Rows L2
section
variable {X : Cx} {a b : Expr} {pos : Pos} {ta tb : WE}
theorem op_mulB : OpR X (binaryOp .Mult) (rI IntMulOk fun i j => .int (i * j)) := opI fun _ _ _ _ _ _ _ hc q => mul_int q hc
noncomputable def mulBF : F2 := intF IntMulOk fun i j => .int (i * j)
theorem mulB3 (ha : PE3 X a ta) (hb : PE3 X b tb) : PE3 X (.BinOp a .Mult b pos) (wBin mulBF ta tb) := op3 op_mulB o3_int ha hb
end
theorem mulB_ok {i j : Int} {m n : Nat} (hi : i.natAbs < 2 ^ m) (hj : j.natAbs < 2 ^ n) (h : m + n ≤ 134217728) : IntMulOk i j := by
  exact mulOk_of_bits (intBits_le hi) (intBits_le hj) h
section
variable {X : Cx}
theorem Dns.empty {K : PySem.W.Frag} {S : Addr → Prop} {H : Hp} {ds : List D} {xs : List V} (h : Dns K S H ds xs) : ds.isEmpty = xs.isEmpty := by
  have := h.len
  cases ds <;> cases xs <;> simp at this ⊢
noncomputable def rSum : List V → Hp → VK → Prop := fun xs H Q => ∃ (a : Addr) (ns : List Int), xs = [.ref a] ∧ H a = some (.lst (ns.map V.int)) ∧ Q (.int ns.sum) H
theorem call_sum3 (hc : X.calm = true) : CallR X (.builtin "sum") rSum := by
  intro pins s σ H xs us Q I r h
  obtain ⟨a, ns, rfl, ha, q⟩ := h
  obtain ⟨u, rfl, ru⟩ := vals1 r
  cases ru
  obtain ⟨its, rv, p, hz⟩ := I.list (SqL.of ha)
  have hi := intsAre_of rv
  obtain ⟨zs, ez⟩ := hi.allInts.items
  have en : zs.toList.map (·.1) = ns := by
    rw [← nums_intItems, ← ez]
    exact hi.numsOf
  have ev : preSum (numAt zs) zs.size = ns.sum := by rw [preSum_eq, List.take_of_length_le (by simp), en]
  refine sum_intListG (I.ok.hd hc) (ez ▸ p.isList) fun h' tk t' hk => ⟨.int ns.sum, H, I.kept hk, ⟨t', by rw [ev]⟩, q⟩
end
end L3
end
section
set_option Elab.async false
set_option linter.all false
set_option maxRecDepth 100000
set_option maxHeartbeats 3999999
namespace L3
open PySem PySem.Spec PyProof.Rows L2
section
variable {X : Cx} {tg : Expr}
end
end L3
end
section
set_option Elab.async false
set_option linter.all false
set_option maxRecDepth 100000
set_option maxHeartbeats 3999999
namespace L4
open PySem PySem.Spec PyProof.Rows L2 L3
noncomputable def wE (f : EF) : WE := fun ρ Q => ∃ d, f ρ = some d ∧ Q d
noncomputable def wT (f : TF) : WT := fun ρ Q => ∃ d, f ρ = some d ∧ Q d
noncomputable def wA (f : AF) : WA := fun ρ Q => ∃ d, f ρ = some d ∧ Q d
noncomputable def wI (f : AF) : WI := fun ρ Q => ∃ d, f ρ = some d ∧ Q d
noncomputable def wX (f : XF) : WX := fun ρ Q => ∃ p, f ρ = some p ∧ Q p.1 p.2
noncomputable def wS (f : SF) : WS := fun E ρ => match f ρ with
  | .nx ρ' => E.nx ρ'
  | .rt d => E.rt d
  | .ex c => E.ex c
  | .no => False
noncomputable def wG (g : GSF) : WG := fun d ρ Q => ∃ ρ', g d ρ = some ρ' ∧ Q ρ'
noncomputable def wGE (g : GEF) : GE := fun d ρ Q => ∃ ρ', g d ρ = some ρ' ∧ Q ρ'
noncomputable abbrev PE4 (X : Cx) (e : Expr) (f : EF) : Prop := PE3 X e (wE f)
noncomputable abbrev PF4 (X : Cx) (e : Expr) (f : EF) : Prop := PF3 X e (wE f)
noncomputable abbrev PT4 (X : Cx) (e : Expr) (f : TF) : Prop := PT3 X e (wT f)
noncomputable abbrev PW4 (X : Cx) (e : Expr) (f : TF) : Prop := PW3 X e (wT f)
noncomputable abbrev PA4 (X : Cx) (es : List Expr) (f : AF) : Prop := PA3 X es (wA f)
noncomputable abbrev PI4 (X : Cx) (tg e : Expr) (f : AF) : Prop := PI3 X tg e (wI f)
noncomputable abbrev PX4 (X : Cx) (e : Expr) (f : XF) : Prop := PX3 X e (wX f)
noncomputable abbrev PS4 (X : Cx) (st : Stmt) (f : SF) : Prop := PS3 X st (wS f)
noncomputable abbrev PSs4 (X : Cx) (st : List Stmt) (f : SF) : Prop := PSs3 X st (wS f)
section
variable {X : Cx}
theorem cE {e : Expr} {t t' : WE} (h : PE3 X e t) (c : ∀ ρ Q, t' ρ Q → t ρ Q) : PE3 X e t' := imp h fun _ _ _ hq51 => by obtain ⟨S, ρ, Q3, fc, sl, ht, k⟩ := hq51; exact ⟨S, ρ, Q3, fc, sl, c ρ Q3 ht, k⟩
theorem cF {e : Expr} {t t' : WE} (h : PF3 X e t) (c : ∀ ρ Q, t' ρ Q → t ρ Q) : PF3 X e t' := imp h fun _ _ _ hq52 => by obtain ⟨S, ρ, Q3, fc, sl, ht, k⟩ := hq52; exact ⟨S, ρ, Q3, fc, sl, c ρ Q3 ht, k⟩
theorem cT {e : Expr} {t t' : WT} (h : PT3 X e t) (c : ∀ ρ Q, t' ρ Q → t ρ Q) : PT3 X e t' := impT h fun _ _ _ hq53 => by obtain ⟨S, ρ, Q3, fc, sl, ht, k⟩ := hq53; exact ⟨S, ρ, Q3, fc, sl, c ρ Q3 ht, k⟩
theorem cW {e : Expr} {t t' : WT} (h : PW3 X e t) (c : ∀ ρ Q, t' ρ Q → t ρ Q) : PW3 X e t' := impW h fun _ _ _ hq54 => by obtain ⟨S, ρ, Q3, fc, sl, ht, k⟩ := hq54; exact ⟨S, ρ, Q3, fc, sl, c ρ Q3 ht, k⟩
theorem cA {e : List Expr} {t t' : WA} (h : PA3 X e t) (c : ∀ ρ Q, t' ρ Q → t ρ Q) : PA3 X e t' := impA h fun _ _ _ hq55 => by obtain ⟨S, ρ, Q3, fc, sl, ht, k⟩ := hq55; exact ⟨S, ρ, Q3, fc, sl, c ρ Q3 ht, k⟩
theorem cI {tg e : Expr} {t t' : WI} (h : PI3 X tg e t) (c : ∀ ρ Q, t' ρ Q → t ρ Q) : PI3 X tg e t' := impI h fun _ _ _ hq56 => by obtain ⟨S, ρ, Q3, fc, sl, ht, k⟩ := hq56; exact ⟨S, ρ, Q3, fc, sl, c ρ Q3 ht, k⟩
theorem cX {e : Expr} {t t' : WX} (h : PX3 X e t) (c : ∀ ρ Q, t' ρ Q → t ρ Q) : PX3 X e t' := imp h fun _ _ _ hq57 => by obtain ⟨H₀, S, w, ρ, G, Q3, hl, st, ht, k⟩ := hq57; exact ⟨H₀, S, w, ρ, G, Q3, hl, st, c ρ Q3 ht, k⟩
theorem cS {e : Stmt} {t t' : WS} (h : PS3 X e t) (c : ∀ E ρ, t' E ρ → t E ρ) : PS3 X e t' := impS h fun _ _ _ hq58 => by obtain ⟨H₀, S, w, ρ, G, E, hl, st, ht, ok⟩ := hq58; exact ⟨H₀, S, w, ρ, G, E, hl, st, c E ρ ht, ok⟩
theorem cSs {e : List Stmt} {t t' : WS} (h : PSs3 X e t) (c : ∀ E ρ, t' E ρ → t E ρ) : PSs3 X e t' := impSs h fun _ _ _ hq59 => by obtain ⟨H₀, S, w, ρ, G, E, hl, st, ht, ok⟩ := hq59; exact ⟨H₀, S, w, ρ, G, E, hl, st, c E ρ ht, ok⟩
theorem PW4.pt {e : Expr} {f : TF} (h : PW4 X e f) : PT4 X e f := PW3.pt h
theorem PF4.pe {e : Expr} {f : EF} (h : PF4 X e f) : PE4 X e f := PF3.pe h
theorem bnd {α β : Type} {o : Option α} {f : α → Option β} {b : β} (h : o.bind f = some b) : ∃ a, o = some a ∧ f a = some b := by
  cases o with
  | none => cases h
  | some a => exact ⟨a, rfl, h⟩
theorem mpd {α β : Type} {o : Option α} {f : α → β} {b : β} (h : o.map f = some b) : ∃ a, o = some a ∧ f a = b := by
  cases o with
  | none => cases h
  | some a => exact ⟨a, rfl, Option.some.inj h⟩
theorem x4 (i : Nat) {x : Str} {pos : Pos} (hN : X.N[i]? = some x := by rfl) (hv : Vis X.env.scope x := by first | exact Or.inl rfl | exact Or.inr (Or.inl rfl) | exact Or.inr (Or.inr rfl)) (hd : (x == ("__debug__" : Str)) = false := by decide)
    (hcd : (x == ("__classdict__" : Str)) = false := by decide) : PE4 X (.Name x pos) (eVar i) := cE (x3 i hN hv hd hcd) fun ρ Q hq60 => by
  obtain ⟨d, e, q⟩ := hq60
  unfold eVar at e
  unfold wVar
  cases h : ρ[i]? with
  | none => rw [h] at e; cases e
  | some o =>
    rw [h] at e
    cases o with
    | none => cases e
    | some d' => cases e; exact q
theorem i4 {i : Int} {j pos} : PE4 X (.Constant (.int i) j pos) (eC (.int i)) := cE i3 fun _ _ hq61 => by obtain ⟨_, e, q⟩ := hq61; cases e; exact q
theorem b4 {b : Bool} {j pos} : PE4 X (.Constant (.bool b) j pos) (eC (.bl b)) := cE b3 fun _ _ hq62 => by obtain ⟨_, e, q⟩ := hq62; cases e; exact q
theorem n4 {j pos} : PE4 X (.Constant .none j pos) (eC .non) := cE n3 fun _ _ hq63 => by obtain ⟨_, e, q⟩ := hq63; cases e; exact q
theorem s4 {x : Str} {j pos} : PE4 X (.Constant (.str x) j pos) (eC (.str x)) := cE s3 fun _ _ hq64 => by obtain ⟨_, e, q⟩ := hq64; cases e; exact q
theorem c4 {x : Str} {i : Int} {t : Tok} {pos : Pos} (hm : X.mg x = some (.int i t)) (hg : Gl X x := by rfl) (hd : (x == ("__debug__" : Str)) = false := by decide) : PE4 X (.Name x pos) (eC (.int i)) := cE (g3 hg hm hd) fun _ _ hq65 => by obtain ⟨_, e, q⟩ := hq65; cases e; exact q
noncomputable def Tells (f : F2) (g : D → D → Option D) : Prop := ∀ (x y d : D) (Q : D → Prop), g x y = some d → Q d → f x y Q
theorem bin_w {f : F2} {g : D → D → Option D} (h : Tells f g) {fa fb : EF} (ρ : DEnv) (Q : D → Prop) (w : wE (eBin g fa fb) ρ Q) : wBin f (wE fa) (wE fb) ρ Q := by
  obtain ⟨d, e, q⟩ := w
  obtain ⟨x, ex, e⟩ := bnd e
  obtain ⟨y, ey, e⟩ := bnd e
  exact ⟨x, ex, y, ey, h x y d Q e q⟩
theorem tells_int {g : Int → Int → D} : Tells (intF0 g) (intM g) := fun x y d Q e q => by
  cases x <;> first | (cases e; done) | skip
  all_goals (cases y <;> first | (cases e; done) | skip)
  cases e; exact q
theorem tells_intC {C : Int → Int → Prop} {c : Int → Int → Bool} {g : Int → Int → D} (h : ∀ i j, c i j = true → C i j) : Tells (intF C g) (intMC c g) := fun x y d Q e q => by
  cases x <;> first | (cases e; done) | skip
  all_goals (cases y <;> first | (cases e; done) | skip)
  rename_i i j
  have e : (if c i j = true then some (g i j) else none) = some d := e
  by_cases hc : c i j = true
  · rw [if_pos hc] at e; cases e; exact ⟨h i j hc, q⟩
  · rw [if_neg hc] at e; cases e
theorem szl {n : Nat} {α : Type} {x d : α} {Q : α → Prop} (e : (if n ≤ szL then some x else none) = some d) (q : Q d) : n ≤ sizeLine ∧ Q x := by
  by_cases h : n ≤ szL
  · rw [if_pos h] at e; cases e; exact ⟨by rw [sizeLine_eq]; exact h, q⟩
  · rw [if_neg h] at e; cases e
theorem tells_add : Tells addF addM := fun x y d Q e q => by
  cases x <;> first | (cases e; done) | skip
  all_goals (cases y <;> first | (cases e; done) | skip)
  · cases e; exact q
  · exact szl (x := D.str _) e q
  · exact szl (x := D.tup _) e q
  · exact szl (x := D.lst _) e q
theorem tells_cat : Tells catF catM := fun x y d Q e q => by
  cases x <;> first | (cases e; done) | skip
  all_goals (cases y <;> first | (cases e; done) | skip)
  exact szl (x := D.lst _) e q
theorem mul_ok {i j : Int} (h : mulOk i j = true) : IntMulOk i j := by
  unfold mulOk at h
  simp only [Bool.or_eq_true, decide_eq_true_eq] at h
  rcases h with (h | h) | h
  · exact CMul.ok (.inl ⟨by omega, by omega⟩)
  · exact CMul.ok (.inr ⟨by omega, by omega⟩)
  · refine mulB_ok (m := i.natAbs.log2 + 1) (n := j.natAbs.log2 + 1) ?_ ?_ (by omega)
    · exact Nat.lt_log2_self
    · exact Nat.lt_log2_self
section
variable {a b : Expr} {pos : Pos} {fa fb : EF}
theorem add4 (ha : PE4 X a fa) (hb : PE4 X b fb) : PE4 X (.BinOp a .Add b pos) (eBin addM fa fb) := cE (add3 ha hb) (bin_w tells_add)
theorem sub4 (ha : PE4 X a fa) (hb : PE4 X b fb) : PE4 X (.BinOp a .Sub b pos) (eBin subM fa fb) := cE (sub3 ha hb) (bin_w tells_int)
theorem mul4 (ha : PE4 X a fa) (hb : PE4 X b fb) : PE4 X (.BinOp a .Mult b pos) (eBin mulM fa fb) := cE (mulB3 ha hb) (bin_w (tells_intC fun _ _ h => mul_ok h))
theorem mod4 (ha : PE4 X a fa) (hb : PE4 X b fb) : PE4 X (.BinOp a .Mod b pos) (eBin modM fa fb) := cE (mod3 ha hb) (bin_w (tells_intC fun _ _ h => by simpa using h))
theorem div4 (ha : PE4 X a fa) (hb : PE4 X b fb) : PE4 X (.BinOp a .FloorDiv b pos) (eBin divM fa fb) := cE (div3 ha hb) (bin_w (tells_intC fun i j h => by
  simp only [Bool.and_eq_true, decide_eq_true_eq] at h
  exact ⟨h.1, by omega⟩))
theorem pow4 (ha : PE4 X a fa) (hb : PE4 X b fb) : PE4 X (.BinOp a .Pow b pos) (eBin powM fa fb) := cE (pow3 ha hb) (bin_w (tells_intC fun i j h => by
  simp only [Bool.and_eq_true, decide_eq_true_eq] at h
  exact ⟨h.1.1, by omega, h.2⟩))
theorem catN4 (ha : PE4 X a fa) (hb : PE4 X b fb) : PF4 X (.BinOp a .Add b pos) (eBin catM fa fb) := cF (catN3 ha hb) (bin_w tells_cat)
theorem tells_eq : Tells eqSF eqM := fun x y d Q e q => by
  cases x <;> first | (cases e; done) | skip
  all_goals (cases y <;> first | (cases e; done) | skip)
  all_goals (cases e; exact ⟨rfl, q⟩)
theorem tells_ne : Tells neSF neM := fun x y d Q e q => by
  cases x <;> first | (cases e; done) | skip
  all_goals (cases y <;> first | (cases e; done) | skip)
  all_goals (cases e; exact ⟨rfl, q⟩)
theorem ints_of : ∀ {ds : List D} {ns : List Int}, intsOf ds = some ns → ds = ns.map D.int
  | [], ns, h => by cases h; rfl
  | d :: ds, ns, h => by
    cases d <;> first | cases h; done | skip
    obtain ⟨m, e, rfl⟩ := mpd h
    rw [ints_of e]; rfl
theorem tells_in {neg : Bool} : Tells (inF neg) (inM neg) := fun x y d Q e q => by
  cases x <;> first | (cases e; done) | skip
  all_goals (cases y <;> first | (cases e; done) | skip)
  all_goals
    obtain ⟨ns, e1, rfl⟩ := mpd e
    have := ints_of e1
    subst this
    exact ⟨allI_ints ns, by rw [memI_ints]; exact q⟩
theorem tells_is : Tells isNF isM := fun x y d Q e q => by
  unfold isM at e
  split at e
  · rename_i h
    cases e
    refine ⟨(by cases y <;> first | rfl | cases h), ?_⟩
    have : isD x = isNon x := by cases x <;> rfl
    rw [this]; exact q
  · cases e
theorem eq4 (ha : PE4 X a fa) (hb : PE4 X b fb) : PE4 X (.Compare a [.Eq] [b] pos) (eBin eqM fa fb) := cE (eqS3 ha hb) (bin_w tells_eq)
theorem in4 (ha : PE4 X a fa) (hb : PE4 X b fb) (hm : behindInMarks .In b = false := by with_unfolding_all rfl) : PE4 X (.Compare a [.In] [b] pos) (eBin (inM false) fa fb) := cE (in3 ha hb hm) (bin_w tells_in)
theorem is4 (ha : PE4 X a fa) (hb : PE4 X b fb) : PE4 X (.Compare a [.Is] [b] pos) (eBin isM fa fb) := cE (isN3 ha hb) (bin_w tells_is)
theorem bin_t {f : F2} {g : D → D → Option D} (h : Tells f g) (hb : ∀ x y d, g x y = some d → ∃ b, d = .bl b) {fa fb : EF} (ρ : DEnv) (Q : Bool → Prop) (w : wT (tV (eBin g fa fb)) ρ Q) : wTest (wBin f (wE fa) (wE fb)) ρ Q := by
  obtain ⟨b, e, q⟩ := w
  obtain ⟨d, e1, e2⟩ := bnd e
  obtain ⟨x, ex, e1⟩ := bnd e1
  obtain ⟨y, ey, e1⟩ := bnd e1
  obtain ⟨c, rfl⟩ := hb x y d e1
  cases e2
  exact ⟨x, ex, y, ey, h x y _ _ e1 q⟩
theorem bl_int {g : Int → Int → Bool} (x y d : D) (e : intM (fun i j => .bl (g i j)) x y = some d) : ∃ b, d = .bl b := by
  cases x <;> first | (cases e; done) | skip
  all_goals (cases y <;> first | (cases e; done) | skip)
  cases e; exact ⟨_, rfl⟩
theorem bl_eq (x y d : D) (e : eqM x y = some d) : ∃ b, d = .bl b := by obtain ⟨b, _, rfl⟩ := mpd e; exact ⟨_, rfl⟩
theorem bl_ne (x y d : D) (e : neM x y = some d) : ∃ b, d = .bl b := by obtain ⟨b, _, rfl⟩ := mpd e; exact ⟨_, rfl⟩
theorem bl_in {neg : Bool} (x y d : D) (e : inM neg x y = some d) : ∃ b, d = .bl b := by
  cases x <;> first | (cases e; done) | skip
  all_goals (cases y <;> first | (cases e; done) | skip)
  all_goals (obtain ⟨b, _, rfl⟩ := mpd e; exact ⟨_, rfl⟩)
theorem bl_is (x y d : D) (e : isM x y = some d) : ∃ b, d = .bl b := by
  unfold isM at e
  split at e
  · cases e; exact ⟨_, rfl⟩
  · cases e
theorem ltT4 (ha : PE4 X a fa) (hb : PE4 X b fb) : PT4 X (.Compare a [.Lt] [b] pos) (tV (eBin ltM fa fb)) := cT (ltT3 ha hb) (bin_t tells_int bl_int)
theorem gtT4 (ha : PE4 X a fa) (hb : PE4 X b fb) : PT4 X (.Compare a [.Gt] [b] pos) (tV (eBin gtM fa fb)) := cT (gtT3 ha hb) (bin_t tells_int bl_int)
theorem geT4 (ha : PE4 X a fa) (hb : PE4 X b fb) : PT4 X (.Compare a [.GtE] [b] pos) (tV (eBin geM fa fb)) := cT (geT3 ha hb) (bin_t tells_int bl_int)
theorem eqT4 (ha : PE4 X a fa) (hb : PE4 X b fb) : PT4 X (.Compare a [.Eq] [b] pos) (tV (eBin eqM fa fb)) := cT (eqST3 ha hb) (bin_t tells_eq bl_eq)
theorem neT4 (ha : PE4 X a fa) (hb : PE4 X b fb) : PT4 X (.Compare a [.NotEq] [b] pos) (tV (eBin neM fa fb)) := cT (neST3 ha hb) (bin_t tells_ne bl_ne)
theorem ninT4 (ha : PE4 X a fa) (hb : PE4 X b fb) (hm : behindInMarks .NotIn b = false := by with_unfolding_all rfl) : PT4 X (.Compare a [.NotIn] [b] pos) (tV (eBin (inM true) fa fb)) := cT (ninT3 ha hb hm) (bin_t tells_in bl_in)
theorem isT4 (ha : PE4 X a fa) (hb : PE4 X b fb) : PT4 X (.Compare a [.Is] [b] pos) (tV (eBin isM fa fb)) := cT (isNT3 ha hb) (bin_t tells_is bl_is)
end
section
variable {a b c : Expr} {rest : List Expr} {pos : Pos} {fa fb : EF} {ta tb tc : TF}
theorem notT4 (ha : PT4 X a ta) : PT4 X (.UnaryOp .Not a pos) (tNot ta) := cT (notT3 ha) fun ρ Q hq66 => by
  obtain ⟨b, e, q⟩ := hq66
  obtain ⟨c, ec, rfl⟩ := mpd e
  exact ⟨c, ec, q⟩
theorem and14 (ha : PT4 X a ta) : PW4 X (.BoolOp .And [a] pos) ta := and1 ha
theorem or14 (ha : PT4 X a ta) : PW4 X (.BoolOp .Or [a] pos) ta := or1 ha
theorem andT4 (ha : PT4 X a ta) (hb : PW4 X (.BoolOp .And (b :: rest) pos) tb) : PW4 X (.BoolOp .And (a :: b :: rest) pos) (tAnd ta tb) := cW (andT3 ha hb) fun ρ Q hq67 => by
  obtain ⟨d, e, q⟩ := hq67
  obtain ⟨c, ec, e⟩ := bnd e
  refine ⟨c, ec, ?_⟩
  cases c with
  | true => rw [if_pos rfl] at e ⊢; exact ⟨d, e, q⟩
  | false => rw [if_neg Bool.false_ne_true] at e ⊢; cases e; exact q
theorem orT4 (ha : PT4 X a ta) (hb : PW4 X (.BoolOp .Or (b :: rest) pos) tb) : PW4 X (.BoolOp .Or (a :: b :: rest) pos) (tOr ta tb) := cW (orT3 ha hb) fun ρ Q hq68 => by
  obtain ⟨d, e, q⟩ := hq68
  obtain ⟨c, ec, e⟩ := bnd e
  refine ⟨c, ec, ?_⟩
  cases c with
  | true => rw [if_pos rfl] at e ⊢; cases e; exact q
  | false => rw [if_neg Bool.false_ne_true] at e ⊢; exact ⟨d, e, q⟩
theorem one4 {op} (ha : PE4 X a fa) : PE4 X (.BoolOp op [a] pos) fa := one3 ha
theorem and4 (ha : PE4 X a fa) (hb : PE4 X (.BoolOp .And (b :: rest) pos) fb) : PE4 X (.BoolOp .And (a :: b :: rest) pos) (eAnd fa fb) := cE (and3 ha hb) fun ρ Q hq69 => by
  obtain ⟨d, e, q⟩ := hq69
  obtain ⟨x, ex, e1⟩ := bnd e
  obtain ⟨c, ec, e⟩ := bnd e1
  clear e1
  refine ⟨x, ex, ?_⟩
  cases x <;> first | cases ec; done | skip
  cases ec
  cases c with
  | true => rw [if_pos rfl] at e; exact ⟨d, e, q⟩
  | false => rw [if_neg Bool.false_ne_true] at e; cases e; exact q
theorem not4 (ha : PE4 X a fa) : PE4 X (.UnaryOp .Not a pos) (eNot fa) := cE (not3 ha) fun ρ Q hq70 => by
  obtain ⟨d, e, q⟩ := hq70
  obtain ⟨x, ex, e⟩ := bnd e
  obtain ⟨c, ec, rfl⟩ := mpd e
  refine ⟨x, ex, ?_⟩
  cases x <;> first | cases ec; done | skip
  cases ec
  exact q
theorem val4 {e : Expr} {f : EF} (h : PE4 X e f) (he : ∀ whole, isTrue e X.env whole = (do let v ← whole; standAt e.pos; holding [v] (truthy v)) := by intro _; rfl) : PT4 X e (tV f) :=
  impT (pt_truth h he) fun σ H Q hq71 => by
    obtain ⟨S, ρ, Q3, fc, sl, ⟨b, hb, q3⟩, k⟩ := hq71
    obtain ⟨d0, ed, et⟩ := bnd hb
    refine ⟨S, ρ, fun d => d = d0, fc, sl, ⟨d0, ed, rfl⟩, fun v H1 d s1 d1 q1 => ?_⟩
    subst q1
    cases d with
    | bl c => cases et; simp only [Dn] at d1; subst d1; exact ⟨_, rfl, k _ H1 s1 q3⟩
    | lst ds =>
      cases et
      simp only [Dn] at d1
      obtain ⟨a, xs, rfl, ha, sa, da⟩ := d1
      exact ⟨_, .inl ⟨xs, SqL.of ha, by rw [← da.empty]⟩, k _ H1 s1 q3⟩
    | tup ds =>
      cases et
      simp only [Dn] at d1
      obtain ⟨a, xs, rfl, ha, da⟩ := d1
      exact ⟨_, .inr (.inl ⟨xs, (SqT.of ha), by rw [← da.empty]⟩), k _ H1 s1 q3⟩
    | _ => cases et
end
end
end L4
end
section
set_option Elab.async false
set_option linter.all false
set_option maxRecDepth 100000
set_option maxHeartbeats 3999999
namespace L4
open PySem PySem.Spec PyProof.Rows L2 L3
section
variable {X : Cx}
theorem nil4 : PA4 X [] aNil := cA nil3 fun _ _ hq72 => by obtain ⟨_, e, q⟩ := hq72; cases e; exact q
theorem cons4 {e : Expr} {es : List Expr} {fe : EF} {t : AF} (ha : PE4 X e fe) (hr : PA4 X es t) (hs : starEach (e :: es) X.env = (false, eval e X.env) :: starEach es X.env := by rfl) : PA4 X (e :: es) (aCons fe t) := cA (cons3 ha hr hs) fun ρ Q hq73 => by
  obtain ⟨ds, e, q⟩ := hq73
  obtain ⟨d, ed, e⟩ := bnd e
  obtain ⟨r, er, e⟩ := bnd e
  cases e
  exact ⟨d, ed, r, er, q⟩
theorem tup4 {es : List Expr} {t : AF} {x1} {pos : Pos} (h : PA4 X es t) : PE4 X (.Tuple es x1 pos) (eTup t) := cE (tup3 h) fun ρ Q hq74 => by
  obtain ⟨d, e, q⟩ := hq74
  obtain ⟨ds, ed, e⟩ := bnd e
  exact ⟨ds, ed, szl (x := D.tup ds) e q⟩
theorem lst4 {es : List Expr} {t : AF} {pos : Pos} (h : PA4 X es t) : PF4 X (.List es pos) (eLst t) := cF (lst3 h) fun ρ Q hq75 => by
  obtain ⟨d, e, q⟩ := hq75
  obtain ⟨ds, ed, e⟩ := bnd e
  exact ⟨ds, ed, szl (x := D.lst ds) e q⟩
theorem tells_ix : Tells ixF ixM := fun x y d Q e q => by
  cases x <;> first | (cases e; done) | skip
  all_goals (cases y <;> first | (cases e; done) | skip)
  · have e : atI _ _ = some d := e
    show (match atI _ _ with | some d => Q d | none => False)
    rw [e]; exact q
  · have e : atI _ _ = some d := e
    show (match atI _ _ with | some d => Q d | none => False)
    rw [e]; exact q
  · obtain ⟨n, e1, rfl⟩ := mpd e
    have e1 : atI _ _ = some n := e1
    show (match atI _ _ with | some n => Q (.int n) | none => False)
    rw [e1]; exact q
theorem ix4 {a b : Expr} {pos : Pos} {fa fb : EF} (ha : PE4 X a fa) (hb : PE4 X b fb) (hs : PlainIx b := by intro _ _; rfl) : PE4 X (.Subscript a b pos) (eBin ixM fa fb) := cE (ix3 ha hb hs) (bin_w tells_ix)
theorem tells_ixD : Tells ixDF ixDM := fun x y d Q e q => by
  cases x <;> first | cases e; done | skip
  rename_i ks ds
  obtain ⟨k, ek, e⟩ := bnd e
  have ek : keyD y = some k := by cases y <;> first | exact ek | cases ek
  have e : lookD ks ds k = some d := e
  show (match D.dic ks ds, keyD y with
    | .dic ks ds, some k => (match lookD ks ds k with | some d => Q d | none => False)
    | _, _ => False)
  rw [ek]
  dsimp only
  rw [e]; exact q
theorem ixD4 {o i : Expr} {pos : Pos} {fo fi : EF} (hu : X.A.units + 1 < cLine) (ho : PE4 X o fo) (hi : PE4 X i fi) (hs : NoSl i := by intro _ _; rfl) : PE4 X (.Subscript o i pos) (eBin ixDM fo fi) := cE (ixD3 hu ho hi hs) (bin_w tells_ixD)
noncomputable def Tells1 (f : F1) (g : List D → Option D) : Prop := ∀ (ds : List D) (d : D) (Q : D → Prop), g ds = some d → Q d → f ds Q
theorem cb_w {f : F1} {g : List D → Option D} (h : Tells1 f g) {t : AF} (ρ : DEnv) (Q : D → Prop) (w : wE (eCB g t) ρ Q) : wCB f (wA t) ρ Q := by
  obtain ⟨d, e, q⟩ := w
  obtain ⟨ds, ed, e⟩ := bnd e
  exact ⟨ds, ed, h ds d Q e q⟩
theorem tells_len : Tells1 lenF lenM := fun ds d Q e q => by
  cases ds with
  | nil => cases e
  | cons a ds =>
    cases a <;> first | (cases e; done) | skip
    all_goals (cases ds <;> first | (cases e; exact q) | (cases e; done))
theorem tells_tuple : Tells1 tupleF tupleM := fun ds d Q e q => by
  cases ds with
  | nil => cases e
  | cons a ds =>
    cases a <;> first | (cases e; done) | skip
    all_goals (cases ds <;> first | (cases e; exact q) | (cases e; done))
theorem len4 {p pos : Pos} {e : Expr} {t : AF} (hm : X.mg "len" = none) (ha : PA4 X [e] t) (hg : Gl X "len" := by rfl) (he : starEach [e] X.env = (false, eval e X.env) :: starEach [] X.env := by rfl) : PE4 X (.Call (.Name "len" p) [e] [] pos) (eCB lenM t) := cE (len3 hm ha hg he) (cb_w tells_len)
theorem tuple4 {p pos : Pos} {e : Expr} {t : AF} (hm : X.mg "tuple" = none) (ha : PA4 X [e] t) (hg : Gl X "tuple" := by rfl) (he : starEach [e] X.env = (false, eval e X.env) :: starEach [] X.env := by rfl) : PE4 X (.Call (.Name "tuple" p) [e] [] pos) (eCB tupleM t) := cE (tuple3 hm PyProof.Rows.boot_tuple ha hg he) (cb_w tells_tuple)
theorem intsOf_eq : ∀ ds : List D, L3.intsOf ds = L4.intsOf ds
  | [] => rfl
  | d :: ds => by
    cases d <;> first | rfl | skip
    show (L3.intsOf ds).map _ = (L4.intsOf ds).map _
    rw [intsOf_eq ds]
theorem insI_perm3 (a : Int) : ∀ l : List Int, (insI a l).Perm (a :: l)
  | [] => .refl _
  | b :: l => by
    unfold insI
    split
    · exact .refl _
    · exact ((insI_perm3 a l).cons b).trans (.swap a b l)
theorem sortI_perm3 : ∀ l : List Int, (sortI l).Perm l
  | [] => .refl _
  | a :: l => (insI_perm3 a (sortI l)).trans ((sortI_perm3 l).cons a)
theorem insI_sorted3 (a : Int) : ∀ l : List Int, l.Pairwise (· ≤ ·) → (insI a l).Pairwise (· ≤ ·)
  | [], _ => by simp [insI]
  | b :: l, h => by
    unfold insI
    split
    · rename_i hab
      refine List.pairwise_cons.mpr ⟨fun c hc => ?_, h⟩
      rcases List.mem_cons.mp hc with e | e
      · subst e; exact hab
      · exact Int.le_trans hab ((List.pairwise_cons.mp h).1 c e)
    · rename_i hab
      refine List.pairwise_cons.mpr ⟨fun c hc => ?_, insI_sorted3 a l (List.pairwise_cons.mp h).2⟩
      rcases List.mem_cons.mp ((insI_perm3 a l).mem_iff.mp hc) with e | e
      · subst e; omega
      · exact (List.pairwise_cons.mp h).1 c e
theorem sortI_sorted3 : ∀ l : List Int, (sortI l).Pairwise (· ≤ ·)
  | [] => List.Pairwise.nil
  | a :: l => insI_sorted3 a _ (sortI_sorted3 l)
theorem sorted_one : ∀ {l m : List Int}, l.Perm m → l.Pairwise (· ≤ ·) → m.Pairwise (· ≤ ·) → l = m
  | [], m, p, _, _ => by rw [p.nil_eq]
  | a :: l, [], p, _, _ => by have := p.length_eq; simp at this
  | a :: l, b :: m, p, h1, h2 => by
    have e : a = b := by
      have m1 := p.mem_iff.mp (List.mem_cons_self (a := a) (l := l))
      have m2 := p.mem_iff.mpr (List.mem_cons_self (a := b) (l := m))
      rcases List.mem_cons.mp m1 with e | e
      · exact e
      · rcases List.mem_cons.mp m2 with e2 | e2
        · exact e2.symm
        · have := (List.pairwise_cons.mp h2).1 a e
          have := (List.pairwise_cons.mp h1).1 b e2
          omega
    subst e
    rw [sorted_one p.cons_inv (List.pairwise_cons.mp h1).2 (List.pairwise_cons.mp h2).2]
theorem tells_sorted : Tells1 sortF sortedM := fun ds d Q e q => by
  unfold sortedM at e
  split at e
  · rename_i a
    obtain ⟨ns, e1, e⟩ := bnd e
    by_cases hl : ns.length < 64
    · rw [if_pos hl] at e
      cases e
      show (match L3.intsOf a with | some ns => ns.length < 64 ∧ ∀ ns' : List Int, ns'.Perm ns → ns'.Pairwise (· ≤ ·) → Q (.lst (ns'.map D.int)) | none => False)
      rw [intsOf_eq, e1]
      refine ⟨hl, fun ns' p s => ?_⟩
      rw [sorted_one (p.trans (sortI_perm3 ns).symm) s (sortI_sorted3 ns)]
      exact q
    · rw [if_neg hl] at e; cases e
  · cases e
theorem sorted4 {p pos : Pos} {e : Expr} {t : AF} (hm : X.mg "sorted" = none) (ha : PA4 X [e] t) (hg : Gl X "sorted" := by rfl) (he : starEach [e] X.env = (false, eval e X.env) :: starEach [] X.env := by rfl) : PF4 X (.Call (.Name "sorted" p) [e] [] pos) (eCB sortedM t) := cF (sorted3 hm ha hg he) (cb_w tells_sorted)
theorem isT_eq (T : String) (d : D) : isTM T d = isT T d := by cases d <;> rfl
theorem isi4 {T : String} {x : Str} {e : Expr} {f : EF} {p p2 pos : Pos} (hT : Ty4 T) (hm : X.mg "isinstance" = none) (hmT : X.mg x = none) (hv : bootBuiltins x = some (.type T)) (he : PE4 X e f) (hg : Gl X "isinstance" := by rfl) (hgT : Gl X x := by rfl) (hn : x ≠ "__name__" := by decide) (hdb : (x == ("__debug__" : Str)) = false := by decide)
    (hs : starEach [e, .Name x p2] X.env = (false, eval e X.env) :: starEach [.Name x p2] X.env := by rfl) (hs2 : starEach [.Name x p2] X.env = (false, eval (.Name x p2) X.env) :: starEach [] X.env := by rfl) (hpl : (backTo pos (starEach [.Name x p2] X.env)).any (·.1) = false := by rfl) :
    PE4 X (.Call (.Name "isinstance" p) [e, .Name x p2] [] pos) (eIsi T f) := cE (isi3 hT hm hmT hv he hg hgT hn hdb hs hs2 hpl) fun ρ Q hq76 => by
  obtain ⟨d, e, q⟩ := hq76
  obtain ⟨x, ex, e⟩ := bnd e
  by_cases hx : notE x = true
  · rw [if_pos hx] at e
    cases e
    exact ⟨x, ex, (by cases x <;> first | trivial | cases hx), by show Q (.bl (isT T x)); rw [← isT_eq]; exact q⟩
  · rw [if_neg hx] at e; cases e
noncomputable def sp4 (K : PySem.W.Frag) (R : FnF) : Sp := sp3 K fun ds Q => ∃ d, R ds = .ok d ∧ Q d
theorem call4 {k : Nat} {f : Addr} {fd : FuncData} {ps : List Str} {R : FnF} {x : Str} {p pos : Pos} {e : Expr} {es : List Expr} {t : AF} (F : FnOk X.prog X.w X.K X.mg X.base CX0 k f fd ps (sp4 X.K R)) (hr : Room k X.A) (hm : X.mg x = some (.ref f)) (hk : PySem.W.keepIn X.K (.ref f) = true) (hb : Binds X.K fd ps [])
    (ha : PA4 X (e :: es) t) (hg : Gl X x := by rfl) (hdb : (x == ("__debug__" : Str)) = false := by decide) (he : starEach (e :: es) X.env = (false, eval e X.env) :: starEach es X.env := by rfl) (hpl : (backTo pos (starEach es X.env)).any (·.1) = false := by rfl) :
    PE4 X (.Call (.Name x p) (e :: es) [] pos) (eCall R t) := cE (call3 F hr hm hk hb ha hg hdb he hpl) fun ρ Q hq77 => by
  obtain ⟨d, e, q⟩ := hq77
  obtain ⟨ds, ed, e⟩ := bnd e
  refine ⟨ds, ed, d, ?_, q⟩
  cases h : R ds with
  | ok d' => rw [h] at e; cases e; rfl
  | no => rw [h] at e; cases e
  | ex c => rw [h] at e; cases e
theorem listRange4 {a : Expr} {t : AF} {p pos p2 pos2 : Pos} (hc : X.calm = true) (hm : X.mg "list" = none) (hmr : X.mg "range" = none) (ha : PA4 X [a] t) (hg : Gl X "list" := by rfl) (hgr : Gl X "range" := by rfl) (hs : starEach [a] X.env = [(false, eval a X.env)] := by rfl)
    (he : starEach [.Call (.Name "range" p2) [a] [] pos2] X.env = (false, eval (.Call (.Name "range" p2) [a] [] pos2) X.env) :: starEach [] X.env := by rfl) :
    PF4 X (.Call (.Name "list" p) [.Call (.Name "range" p2) [a] [] pos2] [] pos) (eListR t) := cF (listRange3 hc hm hmr ha hg hgr hs he) fun ρ Q hq78 => by
  obtain ⟨d, e, q⟩ := hq78
  obtain ⟨ds, ed, e⟩ := bnd e
  refine ⟨ds, ed, ?_⟩
  split at e
  · rename_i j
    by_cases h : j.natAbs ≤ 16777216
    · rw [if_pos h] at e; cases e; exact ⟨⟨by omega, by omega⟩, q⟩
    · rw [if_neg h] at e; cases e
  · cases e
section
variable {tg : Expr}
theorem walk4 {l : Expr} {f : EF} (h : PE4 X l f) : PI4 X tg l (iWalk f) := cI (walk3 h) fun ρ Q hq79 => by
  obtain ⟨ds, e, q⟩ := hq79
  obtain ⟨d, ed, e⟩ := bnd e
  refine ⟨d, ed, ?_⟩
  cases d <;> first | cases e; done | skip
  all_goals (cases e; exact q)
theorem one_of {fa : EF} {ρ : DEnv} {as : List D} (h : aCons fa aNil ρ = some as) : ∃ a, fa ρ = some a ∧ as = [a] := by
  obtain ⟨a, ea, e⟩ := bnd h
  cases e
  exact ⟨a, ea, rfl⟩
theorem range14 {a : Expr} {fa : EF} {p pos : Pos} (hm : X.mg "range" = none) (ha : PE4 X a fa) (hg : Gl X "range" := by rfl) (hs : starEach [a] X.env = [(false, eval a X.env)] := by rfl) : PI4 X tg (.Call (.Name "range" p) [a] [] pos) (iRange (aCons fa aNil)) := cI (range3 hm (cons4 ha nil4 hs) hg hs) fun ρ Q hq80 => by
  obtain ⟨ds, e, q⟩ := hq80
  obtain ⟨as, ea, e⟩ := bnd e
  refine ⟨as, ea, ?_⟩
  obtain ⟨a, ha', rfl⟩ := one_of ea
  clear ea ha'
  cases a <;> first | cases e; done | skip
  rename_i j
  by_cases h : j.natAbs < 4611686018427387904
  · have e : (if j.natAbs < 4611686018427387904 then some ((rngP 0 j.toNat).map D.int) else none) = some ds := e
    rw [if_pos h] at e; cases e; exact ⟨⟨by omega, by omega⟩, q⟩
  · have e : (if j.natAbs < 4611686018427387904 then some ((rngP 0 j.toNat).map D.int) else none) = some ds := e
    rw [if_neg h] at e; cases e
end
theorem compW_of {g : GEF} {t : TF} {e : EF} {ρ : DEnv} : ∀ (ds acc ys : List D) (Q : D → Prop), compF g t e ρ ds = some ys → acc.length + ds.length ≤ sizeLine → Q (.lst (acc ++ ys)) → compW (wGE g) (wT t) (wE e) ρ ds acc Q
  | [], acc, ys, Q, h, _, q => by
    cases h
    rw [compW]
    simpa using q
  | d :: ds, acc, ys, Q, h, hl, q => by
    rw [compW]
    obtain ⟨ρ1, e1, h⟩ := bnd h
    obtain ⟨b, e2, h⟩ := bnd h
    simp only [List.length_cons] at hl
    refine ⟨ρ1, e1, b, e2, ?_⟩
    cases b with
    | true =>
      rw [if_pos rfl] at h ⊢
      obtain ⟨y, e3, h⟩ := bnd h
      obtain ⟨zs, e4, rfl⟩ := mpd h
      exact ⟨y, e3, by omega, compW_of ds (acc ++ [y]) zs Q e4 (by simp; omega) (by simpa using q)⟩
    | false =>
      rw [if_neg Bool.false_ne_true] at h ⊢
      exact compW_of ds acc ys Q h (by omega) q
theorem comp_w {nl : Nat} {fr : List Nat} {it : AF} {g : GEF} {t : TF} {e : EF} (ρ : DEnv) (Q : D → Prop) (w : wE (eComp nl fr it g t e) ρ Q) : wComp nl fr (wI it) (wGE g) (wT t) (wE e) ρ Q := by
  obtain ⟨d, h, q⟩ := w
  obtain ⟨ds, e1, h⟩ := bnd h
  refine ⟨ds, e1, ?_⟩
  by_cases hl : ds.length ≤ szL
  · rw [if_pos hl] at h
    obtain ⟨ys, e2, rfl⟩ := mpd h
    exact compW_of ds [] ys Q e2 (by rw [sizeLine_eq, List.length_nil, Nat.zero_add]; exact hl) (by simpa using q)
  · rw [if_neg hl] at h; cases h
noncomputable abbrev PG44 (X : Cx) (nl : Nat) (tg : Expr) (g : GEF) : Prop := PG4 X nl tg (wGE g)
noncomputable abbrev PIf4 (X : Cx) (ifs : List Expr) (t : TF) : Prop := PIf3 X ifs (wT t)
theorem cG {nl : Nat} {tg : Expr} {g g' : GE} (h : PG4 X nl tg g) (c : ∀ d ρ Q, g' d ρ Q → g d ρ Q) : PG4 X nl tg g' := impG h fun _ _ _ _ hq81 => by obtain ⟨S, ρ, d, Q3, hl, fc, sl, dn, hg, k⟩ := hq81; exact ⟨S, ρ, d, Q3, hl, fc, sl, dn, c d ρ Q3 hg, k⟩
theorem bname4 {nl i : Nat} {x : Str} {pos : Pos} (nd : X.N.Nodup) (hil : i < nl) (hi : X.N[i]? = some x := by rfl) (hx : Loc X.env.scope x := by first | exact .inl rfl | exact .inr rfl) (hfx : X.fn x = true ∨ X.env.scope.names.lookup x = some .local := by first | exact .inr rfl | exact .inl rfl) : PG44 X nl (.Name x pos) (g1 i) := cG (bname nd hil hi hx hfx) fun d ρ Q hq82 => by obtain ⟨ρ', e, q⟩ := hq82; cases e; exact q
theorem noif4 : PIf4 X [] tTrue := fun pins s σ H Q I hq83 => by obtain ⟨S, ρ, Q3, fc, sl, ⟨_, e, q⟩, k⟩ := hq83; cases e; exact noif pins s σ H Q I ⟨S, ρ, Q3, fc, sl, q, k⟩
theorem oneif4 {c : Expr} {t : TF} (h : PT4 X c t) : PIf4 X [c] t := oneif h
section
variable {ls fs : List Str} {fr : List Nat} {sc : Scope} {tg iter elt : Expr} {ifs : List Expr} {pos : Pos} {it : AF} {g : GEF} {t : TF} {e : EF}
theorem comp4 (hc : X.calm = true) (hi : PI4 X tg iter it)
    (hg : ∀ cl C pn ex s H, (blk X (ls ++ fs) sc cl C pn ex s H).N.Nodup → PG44 (blk X (ls ++ fs) sc cl C pn ex s H) ls.length tg g) (hf : ∀ cl C pn ex s H, PIf4 (blk X (ls ++ fs) sc cl C pn ex s H) ifs t) (he : ∀ cl C pn ex s H, PE4 (blk X (ls ++ fs) sc cl C pn ex s H) elt e)
    (B : chk X.env.scope.names sc X.N ls fs fr = true := by rfl) (hs : ∀ x, foldedSetIterable iter X.env x = pure x := by intro _; rfl) : PF4 X (.ListComp elt [⟨tg, iter, ifs, 0⟩] sc pos) (eComp ls.length fr it g t e) := cF (comp3 hc hi hg hf he B hs) comp_w
variable {i : Nat} {x : Str} {spos pos' : Pos}
theorem setCompR4 (nd : X.N.Nodup) (hc : X.calm = true) (hi : PI4 X tg iter it)
    (hg : ∀ cl C pn ex s H, (blk X (ls ++ fs) sc cl C pn ex s H).N.Nodup → PG44 (blk X (ls ++ fs) sc cl C pn ex s H) ls.length tg g) (hf : ∀ cl C pn ex s H, PIf4 (blk X (ls ++ fs) sc cl C pn ex s H) ifs t) (he : ∀ cl C pn ex s H, PE4 (blk X (ls ++ fs) sc cl C pn ex s H) elt e)
    (hx0 : X.N[i]? = some x := by rfl) (hx : X.env.scope.names.lookup x = some .local := by rfl) (hsw : swapsWith (.ListComp elt [⟨tg, iter, ifs, 0⟩] sc pos) (some (.Name x pos')) spos.line X.env = pure true := by rfl)
    (B : chk X.env.scope.names sc X.N ls fs fr = true := by rfl) (hs : ∀ x, foldedSetIterable iter X.env x = pure x := by intro _; rfl) : PS4 X (.Assign [.Name x pos'] (.ListComp elt [⟨tg, iter, ifs, 0⟩] sc pos) spos) (sSet i (eComp ls.length fr it g t e)) :=
  cS (setCompR3 nd hc hi hg hf he hx0 hx hsw B hs) fun E ρ w => by
    unfold wS sSet at w
    unfold wSet
    cases h : eComp ls.length fr it g t e (vRd ρ) with
    | none => rw [h] at w; exact w.elim
    | some d => rw [h] at w; exact comp_w _ _ ⟨d, h, w⟩
end
end
end L4
end
section
set_option Elab.async false
set_option linter.all false
set_option maxRecDepth 100000
set_option maxHeartbeats 3999999
namespace L4
open PySem PySem.Spec PyProof.Rows L2 L3
section
variable {X : Cx}
theorem px4 {e : Expr} {f : EF} (h : PE4 X e f) : PX4 X e (xPure f) := cX (px3 h) fun ρ Q hq84 => by
  obtain ⟨p, e, q⟩ := hq84
  obtain ⟨d, ed, e⟩ := bnd e
  refine ⟨d, ed, ?_⟩
  by_cases hi : d.imm = true
  · rw [if_pos hi] at e; cases e; exact ⟨hi, q⟩
  · rw [if_neg hi] at e; cases e
theorem pxr4 {e : Expr} {f : EF} (h : PE4 X e f) : PX4 X e (xPureR f) := cX (pxr3 h) fun ρ Q hq85 => by
  obtain ⟨p, e, q⟩ := hq85
  obtain ⟨d, ed, e⟩ := bnd e
  cases e
  exact ⟨d, ed, q⟩
theorem own_of {o : Option Sv} {ds : List D} (h : ownL o = some ds) : o = some (.ow (.lst ds)) := by
  unfold ownL at h
  split at h
  · cases h; rfl
  · cases h
noncomputable def TellsM (f : List D → D → (List D → D → Prop) → Prop) (m : List D → D → Option (List D × D)) : Prop := ∀ ds d q (Q : List D → D → Prop), m ds d = some q → Q q.1 q.2 → f ds d Q
theorem m1_w {i : Nat} {f : List D → D → (List D → D → Prop) → Prop} {m : List D → D → Option (List D × D)} (h : TellsM f m) {x : XF} (ρ : SEnv) (Q : SEnv → D → Prop) (w : wX (xM1 i m x) ρ Q) : wM1 i f (wX x) ρ Q := by
  obtain ⟨r, e, q⟩ := w
  obtain ⟨ds0, e0, e⟩ := bnd e
  obtain ⟨p, ep, e⟩ := bnd e
  obtain ⟨ds, e1, e⟩ := bnd e
  obtain ⟨z, ez, rfl⟩ := mpd e
  have o0 := own_of e0
  have o1 := own_of e1
  refine ⟨by rw [o0]; trivial, p, ep, ?_⟩
  show (match p.1[i]? with | some (.ow (.lst ds)) => f ds p.2 fun ds' r => Q (p.1.set i (.ow (.lst ds'))) r | _ => False)
  rw [o1]
  exact h ds p.2 z _ ez q
theorem tells_app : TellsM appF appM := fun ds d q Q e k => by
  unfold appM at e
  by_cases h : ds.length < szL
  · rw [if_pos h] at e; cases e; exact ⟨by rw [sizeLine_eq]; exact h, k⟩
  · rw [if_neg h] at e; cases e
theorem tells_pop : TellsM popF popM := fun ds d q Q e k => by
  cases d <;> first | cases e; done | skip
  rename_i i
  have e : (if i.natAbs < 9223372036854775808 then (ixP ds.length i).bind fun j => (ds[j]?).map fun d => (ds.eraseIdx j, d) else none) = some q := e
  by_cases h : i.natAbs < 9223372036854775808
  · rw [if_pos h] at e
    obtain ⟨j, ej, e⟩ := bnd e
    obtain ⟨d, ed, rfl⟩ := mpd e
    have ej : ixN ds.length i = some j := ej
    refine ⟨⟨by omega, by omega⟩, ?_⟩
    show (match ixN ds.length i with | some j => (match ds[j]? with | some d => Q (ds.eraseIdx j) d | none => False) | none => False)
    rw [ej]
    dsimp only
    rw [ed]
    exact k
  · rw [if_neg h] at e; cases e
theorem tells_ext : TellsM extF extM := fun ds d q Q e k => by
  cases d <;> first | cases e; done | skip
  rename_i es
  have e : (if ds.length + es.length ≤ szL then some (ds ++ es, D.non) else none) = some q := e
  by_cases h : ds.length + es.length ≤ szL
  · rw [if_pos h] at e; cases e; exact ⟨by rw [sizeLine_eq]; exact h, k⟩
  · rw [if_neg h] at e; cases e
section
variable {i : Nat} {x : Str} {e : Expr} {p apos cpos : Pos} {f : XF}
theorem app4 (he : PX4 X e f) (hN : X.N[i]? = some x := by rfl) (hv : Vis X.env.scope x := by first | exact Or.inl rfl | exact Or.inr (Or.inl rfl) | exact Or.inr (Or.inr rfl)) (hd : (x == ("__debug__" : Str)) = false := by decide) (hcd : (x == ("__classdict__" : Str)) = false := by decide)
    (hbase : attributeBase (.Name x p) "append" X.env (eval (.Name x p) X.env) = eval (.Name x p) X.env := by rfl)
    (hfew : ((backTo cpos (starEach [e] X.env)).all (fun x => !x.1) && (backToKw cpos (keywordEach [] X.env)).all (fun x => x.1.isSome)
      && decide ([e].length + ([] : List Keyword).length + (if ([] : List Keyword).isEmpty then 0 else 1) < 30)) = true := by rfl)
    (hline : (apos.endLine == cpos.line) = true := by rfl) (hs : starEach [e] X.env = (false, eval e X.env) :: starEach [] X.env := by rfl) :
    PX4 X (.Call (.Attribute (.Name x p) "append" apos) [e] [] cpos) (xM1 i appM f) := cX (app3 he hN hv hd hcd hbase hfew hline hs) (m1_w tells_app)
theorem pop4 (he : PX4 X e f) (hN : X.N[i]? = some x := by rfl) (hv : Vis X.env.scope x := by first | exact Or.inl rfl | exact Or.inr (Or.inl rfl) | exact Or.inr (Or.inr rfl)) (hd : (x == ("__debug__" : Str)) = false := by decide) (hcd : (x == ("__classdict__" : Str)) = false := by decide)
    (hbase : attributeBase (.Name x p) "pop" X.env (eval (.Name x p) X.env) = eval (.Name x p) X.env := by rfl)
    (hfew : ((backTo cpos (starEach [e] X.env)).all (fun x => !x.1) && (backToKw cpos (keywordEach [] X.env)).all (fun x => x.1.isSome)
      && decide ([e].length + ([] : List Keyword).length + (if ([] : List Keyword).isEmpty then 0 else 1) < 30)) = true := by rfl)
    (hline : (apos.endLine == cpos.line) = true := by rfl) (hs : starEach [e] X.env = (false, eval e X.env) :: starEach [] X.env := by rfl) :
    PX4 X (.Call (.Attribute (.Name x p) "pop" apos) [e] [] cpos) (xM1 i popM f) := cX (pop3 he hN hv hd hcd hbase hfew hline hs) (m1_w tells_pop)
theorem extend4 (he : PX4 X e f) (hN : X.N[i]? = some x := by rfl) (hv : Vis X.env.scope x := by first | exact Or.inl rfl | exact Or.inr (Or.inl rfl) | exact Or.inr (Or.inr rfl)) (hd : (x == ("__debug__" : Str)) = false := by decide) (hcd : (x == ("__classdict__" : Str)) = false := by decide)
    (hbase : attributeBase (.Name x p) "extend" X.env (eval (.Name x p) X.env) = eval (.Name x p) X.env := by rfl)
    (hfew : ((backTo cpos (starEach [e] X.env)).all (fun x => !x.1) && (backToKw cpos (keywordEach [] X.env)).all (fun x => x.1.isSome)
      && decide ([e].length + ([] : List Keyword).length + (if ([] : List Keyword).isEmpty then 0 else 1) < 30)) = true := by rfl)
    (hline : (apos.endLine == cpos.line) = true := by rfl) (hs : starEach [e] X.env = (false, eval e X.env) :: starEach [] X.env := by rfl) :
    PX4 X (.Call (.Attribute (.Name x p) "extend" apos) [e] [] cpos) (xM1 i extM f) := cX (extend3 he hN hv hd hcd hbase hfew hline hs) (m1_w tells_ext)
end
theorem end4 : PSs4 X [] sEnd := cSs end3 fun _ _ w => w
theorem seq_w {f g : SF} (E : DE) (ρ : SEnv) (w : wS (sSeq f g) E ρ) : wSeq (wS f) (wS g) E ρ := by
  unfold wS sSeq at w
  unfold wSeq wS
  cases h : f ρ with
  | nx ρ' => rw [h] at w; exact w
  | rt d => rw [h] at w; exact w
  | no => rw [h] at w; exact w
  | ex c => rw [h] at w; exact w
theorem seq4 {st : Stmt} {rest : List Stmt} {f g : SF} (h1 : PS4 X st f) (h2 : PSs4 X rest g) : PSs4 X (st :: rest) (sSeq f g) := cSs (seq3 h1 h2) seq_w
theorem last4 {st : Stmt} {f : SF} (h1 : PS4 X st f) : PSs4 X [st] f := last3 h1
theorem ret4 {e : Expr} {f : EF} {pos : Pos} (h : PE4 X e f) : PS4 X (.Return (some e) pos) (sRet f) := cS (ret3 h) fun E ρ w => by
  unfold wS sRet at w
  cases h : f (vAll ρ) with
  | none => rw [h] at w; exact w.elim
  | some d => rw [h] at w; exact ⟨d, h, w⟩
theorem ifS4 {c : Expr} {a b : List Stmt} {pos : Pos} {t : TF} {f g : SF} (hc : PT4 X c t) (ha : PSs4 X a f) (hb : PSs4 X b g) : PS4 X (.If c a b pos) (sIf t f g) := cS (ifS3 hc ha hb) fun E ρ w => by
  unfold wS sIf at w
  cases h : t (vAll ρ) with
  | none => rw [h] at w; exact w.elim
  | some c =>
    rw [h] at w
    refine ⟨c, h, ?_⟩
    cases c with
    | true => rw [if_pos rfl]; exact w
    | false => rw [if_neg Bool.false_ne_true]; exact w
section
variable {i : Nat} {x : Str} {e : Expr} {f : EF} {pos pos' : Pos}
theorem set4 (hN : X.N.Nodup) (he : PE4 X e f) (hi : X.N[i]? = some x := by rfl) (hx : Loc X.env.scope x := by first | exact .inl rfl | exact .inr rfl) (hs : swapsWith e (some (.Name x pos')) pos.line X.env = pure false := by rfl) (hf : X.fn x = true ∨ X.env.scope.names.lookup x = some .local := by first | exact .inl rfl | exact .inr rfl) :
    PS4 X (.Assign [.Name x pos'] e pos) (sSet i f) := cS (set3 hN he hi hx hs hf) fun E ρ w => by
  unfold wS sSet at w
  cases h : f (vRd ρ) with
  | none => rw [h] at w; exact w.elim
  | some d => rw [h] at w; exact ⟨d, h, w⟩
theorem own4 (hN : X.N.Nodup) (he : PF4 X e f) (hi : X.N[i]? = some x := by rfl) (hx : Loc X.env.scope x := by first | exact .inl rfl | exact .inr rfl) (hs : swapsWith e (some (.Name x pos')) pos.line X.env = pure false := by rfl) (hf : X.fn x = true ∨ X.env.scope.names.lookup x = some .local := by first | exact .inl rfl | exact .inr rfl) :
    PS4 X (.Assign [.Name x pos'] e pos) (sOwn i f) := cS (own3 hN he hi hx hs hf) fun E ρ w => by
  unfold wS sOwn at w
  cases h : f (vRd ρ) with
  | none => rw [h] at w; exact w.elim
  | some d => rw [h] at w; exact ⟨d, h, w⟩
theorem setF4 (hN : X.N.Nodup) (he : PF4 X e f) (hi : X.N[i]? = some x := by rfl) (hx : Loc X.env.scope x := by first | exact .inl rfl | exact .inr rfl) (hs : swapsWith e (some (.Name x pos')) pos.line X.env = pure false := by rfl) (hf : X.fn x = true ∨ X.env.scope.names.lookup x = some .local := by first | exact .inl rfl | exact .inr rfl) :
    PS4 X (.Assign [.Name x pos'] e pos) (sSetF i f) := cS (setF3 hN he hi hx hs hf) fun E ρ w => by
  unfold wS sSetF at w
  cases h : f (vAll ρ) with
  | none => rw [h] at w; exact w.elim
  | some d =>
    rw [h] at w
    dsimp only at w
    by_cases hl : lstImm d = true
    · rw [if_pos hl] at w
      refine ⟨d, h, ?_, w⟩
      cases d <;> first | exact hl | cases hl
    · rw [if_neg hl] at w; exact w.elim
theorem setX4 {f : XF} (hN : X.N.Nodup) (he : PX4 X e f) (hi : X.N[i]? = some x := by rfl) (hx : Loc X.env.scope x := by first | exact .inl rfl | exact .inr rfl) (hs : swapsWith e (some (.Name x pos')) pos.line X.env = pure false := by rfl) (hf : X.fn x = true ∨ X.env.scope.names.lookup x = some .local := by first | exact .inl rfl | exact .inr rfl) :
    PS4 X (.Assign [.Name x pos'] e pos) (sSetX i f) := cS (setX3 hN he hi hx hs hf) fun E ρ w => by
  unfold wS sSetX at w
  cases h : f ρ with
  | none => rw [h] at w; exact w.elim
  | some d => rw [h] at w; exact ⟨d, h, w⟩
theorem ownDict4 {p : Pos} (hN : X.N.Nodup) (hi : X.N[i]? = some x := by rfl) (hx : Loc X.env.scope x := by first | exact .inl rfl | exact .inr rfl) (hs : swapsWith (.Dict [] [] p) (some (.Name x pos')) pos.line X.env = pure false := by rfl) (hf : X.fn x = true ∨ X.env.scope.names.lookup x = some .local := by first | exact .inl rfl | exact .inr rfl) :
    PS4 X (.Assign [.Name x pos'] (.Dict [] [] p) pos) (sOwnD i) := cS (ownDict3 hN hi hx hs hf) fun E ρ w => w
end
theorem expr4 {e : Expr} {f : XF} {pos : Pos} (he : PX4 X e f) (hs : swapsWith e none pos.line X.env = pure false := by rfl) : PS4 X (.Expr e pos) (sX f) := cS (expr3 he hs) fun E ρ w => by
  unfold wS sX at w
  cases h : f ρ with
  | none => rw [h] at w; exact w.elim
  | some d => rw [h] at w; exact ⟨d, h, w⟩
theorem put4 {i : Nat} {x : Str} {e k : Expr} {f : XF} {fk : EF} {pos pos' p : Pos} (he : PX4 X e f) (hk : PE4 X k fk)
    (hN : X.N[i]? = some x := by rfl) (hv : Vis X.env.scope x := by first | exact Or.inl rfl | exact Or.inr (Or.inl rfl) | exact Or.inr (Or.inr rfl)) (hd : (x == ("__debug__" : Str)) = false := by decide) (hcd : (x == ("__classdict__" : Str)) = false := by decide)
    (ha : ∀ v, assign (.Subscript (.Name x p) k pos') X.env v = (do
      let ov ← holding [v] (eval (.Name x p) X.env)
      let iv ← holding [v, ov] (eval k X.env)
      standAt pos'
      holding [v, ov, iv] (setItem ov iv v)
      release [v, ov, iv] []) := by intro _; rfl)
    (hs : swapsWithSole [.Subscript (.Name x p) k pos'] e pos.line X.env = pure false := by rfl) (hw : swappedStores [.Subscript (.Name x p) k pos'] e X.env = pure none := by rfl)
    (h1 : (assignEach [.Subscript (.Name x p) k pos'] X.env).map (·.2) = [assign (.Subscript (.Name x p) k pos') X.env] := by rfl) :
    PS4 X (.Assign [.Subscript (.Name x p) k pos'] e pos) (sPut i f fk) := cS (put3 he hk hN hv hd hcd ha hs hw h1) fun E ρ w => by
  unfold wS sPut at w
  cases h : ((f ρ).bind fun p => (ownL p.1[i]?).bind fun ds => (fk (vAll p.1)).bind fun kd => (asInt kd).bind fun kk => (ixP ds.length kk).map fun j => p.1.set i (.ow (.lst (ds.set j p.2)))) with
  | none => rw [h] at w; exact w.elim
  | some ρ' =>
    rw [h] at w
    obtain ⟨q, eq, h⟩ := bnd h
    obtain ⟨ds, ed, h⟩ := bnd h
    obtain ⟨kd, ek, h⟩ := bnd h
    obtain ⟨kk, e2, h⟩ := bnd h
    obtain ⟨j, ej, rfl⟩ := mpd h
    have o := own_of ed
    refine ⟨q, eq, by unfold isOw; rw [o]; trivial, kd, ek, ?_⟩
    cases kd <;> first | cases e2; done | skip
    cases e2
    have ej : ixN ds.length kk = some j := ej
    show (match q.1[i]?, D.int kk with
      | some (.ow (.lst ds)), .int k => (match ixN ds.length k with | some j => E.nx (q.1.set i (.ow (.lst (ds.set j q.2)))) | none => False)
      | _, _ => False)
    rw [o]
    dsimp only
    rw [ej]
    exact w
theorem ownDic_of {o : Option Sv} {p : List (Sum Int Str) × List D} (h : ownDic o = some p) : o = some (.ow (.dic p.1 p.2)) := by
  unfold ownDic at h
  split at h
  · cases h; rfl
  · cases h
theorem putN4 {i : Nat} {x : Str} {e k : Expr} {f : XF} {fk : EF} {pos pos' p : Pos} (hu : X.A.units + 1 < cLine) (he : PX4 X e f) (hk : PE4 X k fk)
    (hN : X.N[i]? = some x := by rfl) (hv : Vis X.env.scope x := by first | exact Or.inl rfl | exact Or.inr (Or.inl rfl) | exact Or.inr (Or.inr rfl)) (hd : (x == ("__debug__" : Str)) = false := by decide) (hcd : (x == ("__classdict__" : Str)) = false := by decide)
    (hs : swapsWith e (some (.Subscript (.Name x p) k pos')) pos.line X.env = pure false := by rfl) :
    PS4 X (.Assign [.Subscript (.Name x p) k pos'] e pos) (sPutN i f fk) := cS (putN3 hu he hk hN hv hd hcd hs) fun E ρ w => by
  unfold wS sPutN at w
  cases h : ((f ρ).bind fun p => (ownDic p.1[i]?).bind fun kd => (fk (vAll p.1)).bind fun kv => (keyM kv).bind fun kk =>
    if (lookM kd.1 kd.2 kk).isNone = true ∧ kd.2.length < szL then some (p.1.set i (.ow (.dic (kd.1 ++ [kk]) (kd.2 ++ [p.2])))) else none) with
  | none => rw [h] at w; exact w.elim
  | some ρ' =>
    rw [h] at w
    obtain ⟨q, eq, h⟩ := bnd h
    obtain ⟨kd, ed, h⟩ := bnd h
    obtain ⟨kv, ek, h⟩ := bnd h
    obtain ⟨kk, e2, h⟩ := bnd h
    have o := ownDic_of ed
    by_cases hc : (lookM kd.1 kd.2 kk).isNone = true ∧ kd.2.length < szL
    · rw [if_pos hc] at h
      cases h
      refine ⟨q, eq, by rw [o]; trivial, kv, ek, ?_⟩
      have e3 : keyD kv = some kk := by cases kv <;> first | exact e2 | cases e2
      show (match q.1[i]?, keyD kv with
        | some (.ow (.dic ks ds)), some k => (lookD ks ds k = none ∧ ds.length < sizeLine) ∧ E.nx (q.1.set i (.ow (.dic (ks ++ [k]) (ds ++ [q.2]))))
        | _, _ => False)
      rw [o, e3]
      refine ⟨⟨?_, by rw [sizeLine_eq]; exact hc.2⟩, w⟩
      have := hc.1
      cases hl : lookM kd.1 kd.2 kk with
      | none => exact hl
      | some d => rw [hl] at this; cases this
    · rw [if_neg hc] at h; cases h
theorem cGS {tg : Expr} {g g' : WG} (h : PG3 X tg g) (c : ∀ d ρ Q, g' d ρ Q → g d ρ Q) : PG3 X tg g' := impG h fun _ _ _ _ hq86 => by obtain ⟨H₀, S, w, ρ, G, d, Q3, hl, st, dn, hg, k⟩ := hq86; exact ⟨H₀, S, w, ρ, G, d, Q3, hl, st, dn, c d ρ Q3 hg, k⟩
theorem name4 {i : Nat} {x : Str} {pos : Pos} (hN : X.N.Nodup) (hi : X.N[i]? = some x := by rfl) (hx : Loc X.env.scope x := by first | exact .inl rfl | exact .inr rfl) (hf : X.fn x = true ∨ X.env.scope.names.lookup x = some .local := by first | exact .inl rfl | exact .inr rfl) : PG3 X (.Name x pos) (wG (gN1 i)) :=
  cGS (name3 hN hi hx hf) fun d ρ Q hq87 => by obtain ⟨ρ', e, q⟩ := hq87; cases e; exact q
theorem for4 {tg iter : Expr} {body : List Stmt} {it : AF} {g : GSF} {b : SF} {pos : Pos} (hc : X.calm = true) (hp : PassesOwn (model X.prog X.w) X.A X.env X.xe) (hi : PI4 X tg iter it) (hg : PG3 X tg (wG g)) (hb : PSs4 X body b)
    (hs : ∀ x, foldedSetIterable iter X.env x = pure x := by intro _; rfl) : PS4 X (.For tg iter body [] pos) (sFor it g b) := cS (for3 hc hp hi hg hb hs) fun E ρ w => by
  unfold wS sFor at w
  cases h : it (vRd ρ) with
  | none => rw [h] at w; exact w.elim
  | some ds =>
    rw [h] at w
    refine ⟨ds, h, fun i ρ' => wS (loopF g b (ds.drop i)) E ρ', (by show wS (loopF g b (ds.drop 0)) E ρ; rw [List.drop_zero]; exact w), fun i d ρ' hd iv => ?_, fun ρ' iv => ?_⟩
    · have hi : i < ds.length := (List.getElem?_eq_some_iff.mp hd).1
      have e1 : ds[i] = d := (List.getElem?_eq_some_iff.mp hd).2
      have iv : wS (loopF g b (ds.drop i)) E ρ' := iv
      rw [List.drop_eq_getElem_cons hi, e1] at iv
      unfold wS loopF at iv
      cases hg : g d ρ' with
      | none => rw [hg] at iv; exact iv.elim
      | some ρ1 =>
        rw [hg] at iv
        dsimp only at iv
        refine ⟨ρ1, hg, ?_⟩
        unfold wS
        cases hb : b ρ1 with
        | nx ρ2 => rw [hb] at iv; dsimp only; rw [hb]; exact iv
        | rt d => rw [hb] at iv; dsimp only; rw [hb]; exact iv
        | no => rw [hb] at iv; dsimp only; rw [hb]; exact iv
        | ex c => rw [hb] at iv; dsimp only; rw [hb]; exact iv
    · have iv : wS (loopF g b (ds.drop ds.length)) E ρ' := iv
      rw [List.drop_length] at iv
      exact iv
end
theorem fun4 {P : Program} {w : World} {K : PySem.W.Frag} {mg : Str → Option Value} {base : Heap} {x qual : Str} {st : Stmt} {f : Addr} {fd : FuncData} {N ps : List Str} {k n np : Nat} {b : SF} (F : Fun K x qual st f fd) (S : FnScope N ps (defScope st)) (hn : N.length = n) (hp : ps.length = np)
    (hbody : ∀ (cdv : Value) (A : Around) (outer : List Env) (s : Shared) (H : Hp) (E : XK), Room k (A.deeper (envOfC qual (defScope st) s.heap.objs.size f cdv)) →
      PSs4 (cxOf CX0 P w K mg base N qual (defScope st) f cdv A outer s H E).nox (defBody st) b) : FnOk P w K mg base CX0 (k + 1) f fd ps (sp4 K (runF n np b)) := by
  subst hn hp
  refine fun3 F S (fun ds Q ⟨d, e, q⟩ => ?_) fun cdv A outer s H E hr => ⟨_, hbody cdv A outer s H E hr, fun ds Q ⟨d, e, q⟩ => ?_⟩
  · unfold runF at e
    by_cases h : ds.length = ps.length
    · exact h
    · rw [if_neg h] at e; cases e
  · unfold runF at e
    by_cases h : ds.length = ps.length
    · rw [if_pos h] at e
      have e2 : start3 N ds = startS N.length ds := rfl
      unfold wS
      rw [e2]
      cases hb : b (startS N.length ds) with
      | rt d' => rw [hb] at e; cases e; exact q
      | nx ρ => rw [hb] at e; cases e; exact q
      | no => rw [hb] at e; cases e
      | ex c => rw [hb] at e; cases e
    · rw [if_neg h] at e; cases e
theorem none4 {P : Program} {w : World} {K : PySem.W.Frag} {mg : Str → Option Value} {base : Heap} {k : Nat} {f : Addr} {fd : FuncData} {ps : List Str} : FnOk P w K mg base CX0 k f fd ps (sp4 K fun _ => .no) :=
  ⟨fun _ _ _ _ h => (by obtain ⟨_, _, _, _, _, ⟨_, e, _⟩, _⟩ := h; cases e), fun _ _ _ _ _ _ _ _ _ _ _ _ _ h => (by obtain ⟨_, _, _, _, _, ⟨_, e, _⟩, _⟩ := h; cases e)⟩
end L4
end
section
set_option Elab.async false
set_option linter.all false
set_option maxRecDepth 100000
set_option maxHeartbeats 3999999
namespace L4
open PySem PySem.Spec PyProof.Rows L2 L3
section
variable {X : Cx} {pins : List (Addr × Obj)} {σ : L2.St} {H : Hp}
theorem truth_still {s : Shared} {x : V} {v : Value} {k : Bool} {A : Around} {E : Value → Shared → Prop} {Q : Bool → Shared → Prop} (I : Inv X pins σ H s) (rx : RelV x v) (e : x = .bl k ∨ (∃ p xs, x = .ref p ∧ (SqL X.K H p xs ∨ SqT X.K H p xs) ∧ k = !xs.isEmpty))
    (q : ∀ tk, Q k { s with toks := tk }) : wpAny (model X.prog X.w) A (truthy v) Q E s := by
  have hs : sizeLine = 16777216 := sizeLine_eq
  rcases e with rfl | ⟨p, xs, rfl, hx, rfl⟩
  · cases rx
    exact wpAny_truthy_bool (q s.toks)
  · cases rx
    rcases hx with hx | hx
    · obtain ⟨its, r, pl, hz⟩ := I.list hx
      have hlen := r.length
      exact wpAny_truthy_list pl.isList (by simp only [List.size_toArray]; omega) (by rw [isEmpty_of r]; exact q _)
    · obtain ⟨its, r, pl, hz⟩ := I.tuple hx
      have hlen := r.length
      exact truthy_tuple pl (by simp only [List.size_toArray]; omega) (by rw [isEmpty_of r]; exact q _)
noncomputable def TrV (K : PySem.W.Frag) (H : Hp) (x : V) (k : Bool) : Prop := x = .bl k ∨ (∃ p xs, x = .ref p ∧ (SqL K H p xs ∨ SqT K H p xs) ∧ k = !xs.isEmpty)
theorem drop_here {n j : Nat} (h : j < n) : (List.range n).drop j = j :: (List.range n).drop (j + 1) := by
  have hl : j < (List.range n).length := by rw [List.length_range]; exact h
  rw [List.drop_eq_getElem_cons hl, List.getElem_range]
section
variable {it : Addr} {fp wr : List Addr} {n : Nat} {P : Nat → Value → Prop} {St : Nat → Heap → Prop} {R : Result → Shared → Prop} {tr : Nat → Bool}
theorem turns_all (W : Walks X.prog X.w X.A.in1 it fp wr n P St) (hf : ∀ b ∈ wr, FpOk X pins H b) (ht : ∀ j v, P j v → ∃ x, RelV x v ∧ TrV X.K H x (tr j)) :
    ∀ (m j : Nat) (st : Shared), m + j = n → Inv X pins σ H st → St j st.heap → (∀ st', Inv X pins σ H st' → R (.ok (.ret (.bool (((List.range n).drop j).all tr)))) st') → codeAny (model X.prog X.w) X.A (.builtin "all.loop" ⟨[.ref it], []⟩) R st
  | 0, j, st, hj, I, hS, k => by
    obtain rfl : j = n := by omega
    refine codeAny_builtin (F.entry_all_loop) ?_
    rw [Around.under_plainId F.plain_all_loop]
    refine wpAny_bind (W.done st _ _ hS fun h2 t2 kp => wpAny_bind (wpAny_rule (wpAny_pure ?_)))
    have := k _ (turnM (t' := t2) I kp hf)
    rwa [List.drop_eq_nil_of_le (by simp)] at this
  | m + 1, j, st, hj, I, hS, k => by
    have hjn : j < n := by omega
    refine codeAny_builtin (F.entry_all_loop) ?_
    rw [Around.under_plainId F.plain_all_loop]
    refine wpAny_bind (W.item j st _ _ hjn hS fun v h2 t2 pv hS2 kp => ?_)
    have I2 : Inv X pins σ H { st with heap := h2, toks := t2 } := turnM (t' := t2) I kp hf
    obtain ⟨x, rx, hx⟩ := ht j v pv
    rw [drop_here hjn, List.all_cons] at k
    refine wpAny_bind (wpAny_holding (truth_still I2 rx hx fun t3 => wpAny_bind (wpAny_letGo ?_)))
    have I3 : Inv X pins σ H { st with heap := h2, toks := t3 } := I2.tok t3
    cases hb : tr j with
    | true =>
      rw [hb, Bool.true_and] at k
      rw [if_pos rfl]
      exact wpAny_pure ⟨plainId_quiet F.plain_all_loop _, turns_all W hf ht m (j + 1) _ (by omega) I3 hS2 k⟩
    | false =>
      rw [hb, Bool.false_and] at k
      rw [if_neg Bool.false_ne_true]
      exact wpAny_bind (wpAny_rule (wpAny_pure (k _ I3)))
end
noncomputable def rTrs (f : List Bool → Bool) (K : PySem.W.Frag) : List V → Hp → VK → Prop := fun xs H Q => ∃ a ys bs, xs = [.ref a] ∧ H a = some (.lst ys) ∧ bs.length = ys.length ∧ (∀ (j : Nat) (y : V) (b : Bool), ys[j]? = some y → bs[j]? = some b → TrV K H y b) ∧ Q (.bl (f bs)) H
theorem call_all4 (hc : X.calm = true) : CallR X (.builtin "all") (rTrs (fun bs => bs.all id) X.K) := by
  intro pins s σ H xs us Q I r h
  obtain ⟨a, ys, bs, rfl, ha, hl, ht, q⟩ := h
  obtain ⟨u, rfl, ru⟩ := vals1 r
  cases ru
  obtain ⟨its, rv, p, hz⟩ := I.list (SqL.of ha)
  have hlt : a < s.heap.objs.size := by obtain ⟨o, n, e, _⟩ := p; exact Heap.lt_size e
  have hn : its.length = ys.length := rv.length.symm
  have ht2 : ∀ j v, its.toArray[j]? = some v → ∃ x, RelV x v ∧ TrV X.K H x (bs.getD j true) := fun j v e => by
    have e1 : its[j]? = some v := by simpa using e
    have hj : j < ys.length := by have := (List.getElem?_eq_some_iff.mp e1).1; omega
    obtain ⟨u, e2, ru⟩ := rv.get (List.getElem?_eq_getElem hj)
    rw [e1] at e2
    cases e2
    refine ⟨_, ru, ht j _ _ (List.getElem?_eq_getElem hj) ?_⟩
    rw [List.getD_eq_getElem?_getD, List.getElem?_eq_getElem (by omega)]
    rfl
  refine call_function_tree (F.kind_all) F.plain_all F.entry_all (F.args_all1 _) ?_
  unfold Builtin.«all»
  refine wpAny_bind (m := oneArg "all" _) (wpAny_pure (wpAny_bind (wpAny_pyIter_list p.isList (wpAny_pure ⟨plainId_quiet F.plain_all_loop _, ?_⟩))))
  have hfr : H s.heap.objs.size = none := I.hok.fresh (Nat.le_refl _)
  have I1 : Inv X pins σ H { s with heap := s.heap.push { cls := .type "list_iterator", data := .fields #[.ref a, rawInt 0] } } := I.kept (t' := s.toks) fun b o e => Heap.get?_push_of_some _ e
  refine turns_all (X := X) (pins := pins) (σ := σ) (H := H) (tr := fun j => bs.getD j true) (Walks.list (A := X.A.in1) (show X.A.in1.handled = none from I.ok.hd hc) s.heap.objs.size a (Nat.ne_of_lt hlt) its.toArray) (fun b hb => ?_) ht2 its.toArray.size 0 _ rfl I1
    ⟨⟨_, Heap.get?_push_size _ rfl, rfl, rfl⟩, p.isList.at fun o e => Heap.get?_push_of_some _ e⟩ fun st' I' => ?_
  · cases List.mem_singleton.mp hb
    exact I.fpOk (Nat.le_refl _) hfr
  · refine ⟨.bl _, H, I', rfl, ?_⟩
    rw [List.drop_zero, show its.toArray.size = bs.length by simp [hn, hl], range_all]
    exact q
theorem trs_w {K : PySem.W.Frag} {S : Addr → Prop} {H : Hp} : ∀ {es : List D} {ys : List V} {bs : List Bool}, Dns K S H es ys → truths es = some bs → bs.length = ys.length ∧ ∀ (j : Nat) (y : V) (b : Bool), ys[j]? = some y → bs[j]? = some b → TrV K H y b
  | [], ys, bs, dn, h => by
    simp only [Dns] at dn
    subst dn
    cases h
    exact ⟨rfl, fun j y b e => by simp at e⟩
  | d :: es, ys, bs, dn, h => by
    obtain ⟨v, r, rfl, h1, h2⟩ := dn.uncons
    obtain ⟨b, eb, h⟩ := bnd h
    obtain ⟨bs', e2, rfl⟩ := mpd h
    obtain ⟨hl, ih⟩ := trs_w h2 e2
    refine ⟨by simp [hl], fun j y c ey ec => ?_⟩
    cases j with
    | zero =>
      simp at ey ec
      subst ey ec
      cases d <;> first | cases eb; done | skip
      · cases eb; simp only [Dn] at h1; exact .inl h1
      · cases eb; simp only [Dn] at h1; obtain ⟨a, xs, rfl, ha, da⟩ := h1; exact .inr ⟨a, xs, rfl, .inr (SqT.of ha), by rw [← da.empty]⟩
      · cases eb; simp only [Dn] at h1; obtain ⟨a, xs, rfl, ha, _, da⟩ := h1; exact .inr ⟨a, xs, rfl, .inl (SqL.of ha), by rw [← da.empty]⟩
    | succ j => exact ih j y c (by simpa using ey) (by simpa using ec)
noncomputable def trF (f : List Bool → Bool) : F1
  | [.lst es], Q => ∃ bs, truths es = some bs ∧ Q (.bl (f bs))
  | _, _ => False
theorem c3_trs {K : PySem.W.Frag} {f : List Bool → Bool} : C3 K (rTrs f K) (trF f) := by
  intro S H xs ds Q3 Q fc hd hf k
  match ds, hf with
  | [.lst es], ⟨bs, eb, q⟩ =>
    obtain ⟨v, r, rfl, h1, h2⟩ := hd.uncons
    simp only [Dns] at h2
    subst h2
    simp only [Dn] at h1
    obtain ⟨a, ys, rfl, ha, sa, da⟩ := h1
    obtain ⟨hl, ht⟩ := trs_w da eb
    exact ⟨a, ys, bs, rfl, ha, hl, ht, k _ H _ (Same.refl H) (by simp only [Dn]) q⟩
theorem all4 {p pos : Pos} {e : Expr} {t : AF} (hc : X.calm = true) (hm : X.mg "all" = none) (ha : PA4 X [e] t) (hg : Gl X "all" := by rfl) (he : starEach [e] X.env = (false, eval e X.env) :: starEach [] X.env := by rfl) : PE4 X (.Call (.Name "all" p) [e] [] pos) (eCB allM t) :=
  cE (callB3 (call_all4 hc) c3_trs PyProof.Rows.boot_all hg hm ha (by decide) (by decide) he (by rfl)) (cb_w fun ds d Q e q => by
    unfold allM at e
    split at e
    · obtain ⟨bs, eb, rfl⟩ := mpd e; exact ⟨bs, eb, q⟩
    · cases e)
end
end L4
end
section
set_option Elab.async false
set_option linter.all false
set_option maxRecDepth 100000
set_option maxHeartbeats 3999999
namespace L3
open PySem PySem.Spec PyProof.Rows L2
namespace Rv
end Rv
section
variable {prog : Program} {w : World} {A : Around} {E : Value → Shared → Prop} {s : Shared}
end
section
variable {X : Cx} {tg : Expr}
end
section
variable {prog : Program} {w : World} {A : Around} {E : Value → Shared → Prop} {s : Shared}
end
section
variable {X : Cx}
end
end L3
namespace L4
open PySem PySem.Spec PyProof.Rows L2 L3
section
variable {X : Cx} {tg : Expr}
end
end L4
end
section
set_option Elab.async false
set_option linter.all false
set_option maxRecDepth 100000
set_option maxHeartbeats 3999999
namespace L4
open PySem PySem.Spec PyProof.Rows L2 L3 PySem.W
section
variable {lt : Nat → Nat → Bool}
end
end L4
end
section
set_option Elab.async false
set_option linter.all false
set_option maxRecDepth 100000
set_option maxHeartbeats 3999999
namespace L4
open PySem PySem.Spec PyProof.Rows L2 L3 PySem.W Att
section
variable {prog : Program} {w : World} {A : Around} {s : Shared} {Q : Bool → Shared → Prop}
end
section
variable {n : Nat}
end
section
variable {X : Cx}
end
end L4
end
section
set_option Elab.async false
set_option linter.all false
set_option maxRecDepth 100000
set_option maxHeartbeats 3999999
namespace L4
open PySem PySem.Spec PyProof.Rows L2 L3
section
variable {X : Cx}
noncomputable def sortUF : F1
  | [.lst ds], Q => ∃ ts, tupsOf ds = some ts ∧ ts.length < 64 ∧ (∀ t ∈ ts, t ≠ []) ∧ Q (.lst ((sortT ts).map tupD))
  | _, _ => False
theorem tupOf_of {d : D} {t : List Int} (h : tupOf d = some t) : d = tupD t := by
  cases d <;> first | cases h; done | skip
  rename_i ds
  unfold tupD
  rw [← ints_of h]
theorem tupsOf_of : ∀ {ds : List D} {ts : List (List Int)}, tupsOf ds = some ts → ds = ts.map tupD
  | [], ts, h => by cases h; rfl
  | d :: ds, ts, h => by
    unfold tupsOf at h
    obtain ⟨t, e1, h⟩ := bnd h
    obtain ⟨us, e2, rfl⟩ := mpd h
    rw [List.map_cons, tupOf_of e1, tupsOf_of e2]
theorem dn_tup {K : PySem.W.Frag} {S : Addr → Prop} {H : Hp} {t : List Int} {v : V} (h : Dn K S H (tupD t) v) : ∃ p, v = .ref p ∧ H p = some (.tup (t.map V.int)) := by
  unfold tupD at h
  simp only [Dn] at h
  obtain ⟨a, xs, rfl, hl, da⟩ := h
  rw [Dns.ints.mp da] at hl
  exact ⟨a, rfl, hl⟩
theorem dns_tups {K : PySem.W.Frag} {S : Addr → Prop} {H : Hp} : ∀ {ts : List (List Int)} {ys : List V}, Dns K S H (ts.map tupD) ys → ∃ ps : List Addr, ys = ps.map V.ref ∧ ps.length = ts.length ∧ ∀ (j : Nat) (p : Addr) (t : List Int), ps[j]? = some p → ts[j]? = some t → H p = some (.tup (t.map V.int))
  | [], ys, h => by
    simp only [List.map_nil, Dns] at h
    exact ⟨[], h, rfl, fun j p t e => by simp at e⟩
  | t :: ts, ys, h => by
    obtain ⟨v, r, rfl, h1, h2⟩ := Dns.uncons h
    obtain ⟨p, rfl, hp⟩ := dn_tup h1
    obtain ⟨ps, rfl, hl, hh⟩ := dns_tups h2
    refine ⟨p :: ps, rfl, by simp [hl], fun j q u e1 e2 => ?_⟩
    cases j with
    | zero => cases e1; cases e2; exact hp
    | succ j => exact hh j q u (by simpa using e1) (by simpa using e2)
end
end L4
end
section
set_option Elab.async false
set_option linter.all false
set_option maxRecDepth 100000
set_option maxHeartbeats 3999999
namespace L4
open PySem PySem.Spec PyProof.Rows L2 L3 PySem.SeqAt
section
variable {X : Cx} {pins : List (Addr × Obj)} {σ : L2.St} {H : Hp} {s : Shared} {S : Addr → Prop}
open Classical in
end
end L4
end
section
set_option Elab.async false
set_option linter.all false
set_option maxRecDepth 100000
set_option maxHeartbeats 3999999
namespace L4
open PySem PySem.Spec PyProof.Rows L2 L3
section
variable {X : Cx}
theorem frzS4 (i : Nat) {st : Stmt} {f : SF} (h : PS4 X st f) : PS4 X st (sFrz i f) :=
  impS h fun B σ H hq88 => by obtain ⟨H₀, S, w, ρ, G, E, hl, st, ht, ok⟩ := hq88; exact ⟨H₀, S, w, freeze ρ i, G, E, hl, st.frozen, ht, ok⟩
noncomputable def sortVF : F1
  | [.lst [d]], Q => Q (.lst [d])
  | ds, Q => sortUF ds Q
noncomputable def rSumT (K : PySem.W.Frag) : List V → Hp → VK → Prop := fun xs H Q => ∃ (a : Addr) (ns : List Int), xs = [.ref a] ∧ SqT K H a (ns.map V.int) ∧ Q (.int ns.sum) H
theorem call_sumT (hc : X.calm = true) : CallR X (.builtin "sum") (rSumT X.K) := by
  intro pins s σ H xs us Q I r h
  obtain ⟨a, ns, rfl, ha, q⟩ := h
  obtain ⟨u, rfl, ru⟩ := vals1 r
  cases ru
  obtain ⟨its, rv, p, hz⟩ := I.tuple ha
  have hi := intsAre_of rv
  obtain ⟨zs, ez⟩ := hi.allInts.items
  have en : zs.toList.map (·.1) = ns := by
    rw [← nums_intItems, ← ez]
    exact hi.numsOf
  have ev : preSum (numAt zs) zs.size = ns.sum := by rw [preSum_eq, List.take_of_length_le (by simp), en]
  have pt : s.heap.IsTuple a (intItems zs) := ez ▸ (show s.heap.IsTuple a its.toArray from p)
  have hlt : a < s.heap.objs.size := by obtain ⟨_, e, _⟩ := pt; exact Heap.lt_size e
  refine call_sum_walkG (wpAny_pyIter_tuple pt ?_)
  refine ⟨_, _, _, _, _, _, numAt zs, rfl, Walks.tuple (A := X.A.in1) (I.ok.hd hc) _ a (Nat.ne_of_lt hlt) (intItems zs), ⟨⟨_, Heap.get?_push_size _ rfl, rfl, rfl⟩, pt.push _⟩, ?_, (fun _ _ => intItems_at), fun h' tk t' hk => ?_⟩
  · intro b hb
    refine Nat.lt_of_lt_of_eq ?_ (Heap.size_push _ _).symm
    have hb2 : b = s.heap.objs.size ∨ b = a := by simpa using hb
    rcases hb2 with rfl | rfl
    · exact Nat.lt_succ_self _
    · exact Nat.lt_succ_of_lt hlt
  · refine ⟨.int ns.sum, H, I.kept fun b o e => hk b o (fun hb => ?_) (Heap.get?_push_of_some _ e), ⟨t', ?_⟩, q⟩
    · have : b = s.heap.objs.size := by simpa using hb
      exact Nat.lt_irrefl _ (this ▸ Heap.lt_size e)
    · rw [show (intItems zs).size = zs.size by simp [intItems], ev]
noncomputable def sumTF : F1
  | [.tup ds], Q => ∃ ns : List Int, ds = ns.map D.int ∧ Q (.int ns.sum)
  | _, _ => False
theorem c3_sumT {K : PySem.W.Frag} : C3 K (rSumT K) sumTF := by
  intro S H xs ds Q3 Q fc hd hf k
  match ds, hf with
  | [.tup es], ⟨ns, e, q⟩ =>
    subst e
    obtain ⟨v, r, rfl, h1, h2⟩ := hd.uncons
    simp only [Dns] at h2
    subst h2
    simp only [Dn] at h1
    obtain ⟨a, ys, rfl, ha, da⟩ := h1
    have e2 := Dns.ints.mp da
    subst e2
    exact ⟨a, ns, rfl, (SqT.of ha), k _ H _ (Same.refl H) (by simp only [Dn]) q⟩
theorem tells_sumT : Tells1 sumTF sumTM := fun ds d Q e q => by
  unfold sumTM at e
  split at e
  · obtain ⟨ns, e1, rfl⟩ := mpd e
    have := ints_of e1
    subst this
    exact ⟨ns, rfl, q⟩
  · cases e
theorem sumT4 {p pos : Pos} {e : Expr} {t : AF} (hc : X.calm = true) (hm : X.mg "sum" = none) (ha : PA4 X [e] t) (hg : Gl X "sum" := by rfl) (he : starEach [e] X.env = (false, eval e X.env) :: starEach [] X.env := by rfl) : PE4 X (.Call (.Name "sum" p) [e] [] pos) (eCB sumTM t) :=
  cE (callB3 (call_sumT hc) c3_sumT PyProof.Rows.boot_sum hg hm ha (by decide) (by decide) he (by rfl)) (cb_w tells_sumT)
end
end L4
end
section
set_option Elab.async false
set_option linter.all false
set_option maxRecDepth 100000
set_option maxHeartbeats 3999999
namespace L5
open PySem PySem.Spec PyProof.Rows L2 L3 L4
theorem objOk_got {P : Program} {w : World} {H : Hp} {h : Heap} {a : Addr} {o : HO} (x : ObjOk P w H h a o) : ∃ u, h.get? a = some u := by
  cases o with
  | lst xs => obtain ⟨_, _, _, _, e⟩ := x; exact ⟨_, e⟩
  | tup xs => obtain ⟨_, _, _, u, e, _⟩ := x; exact ⟨_, e⟩
  | dK kvs => obtain ⟨_, _, _, _, o, _, _, e, _⟩ := x; exact ⟨_, e⟩
  | dT kvs => obtain ⟨_, _, _, _, o, _, _, e, _⟩ := x; exact ⟨_, e⟩
  | dX ob kvs => obtain ⟨_, _, e, _⟩ := x; exact ⟨_, e⟩
  | set S n => obtain ⟨o, _, _, _, e, _⟩ := x; exact ⟨_, e⟩
  | ins C dx fs => obtain ⟨_, _, _, e, _⟩ := x; exact ⟨_, e⟩
  | own y => obtain ⟨_, e⟩ := x; exact ⟨_, e⟩
  | xd fs => obtain ⟨_, ⟨_, _, _, e, _⟩, _⟩ := x; exact ⟨_, e⟩
  | rng lo hi => obtain ⟨_, _, _, e⟩ := x; exact ⟨_, e⟩
  | frz ob u => obtain ⟨e, _⟩ := x; exact ⟨_, e⟩
  | tbl ps => exact ⟨_, (show h.get? a = some _ from x)⟩
  | met f y => exact ⟨_, (show h.get? a = some _ from x)⟩
  | ext φ => obtain ⟨_, ⟨_, e⟩, _⟩ := x; exact ⟨_, e⟩
section
variable {X : Cx} {pins : List (Addr × Obj)} {σ : L2.St} {H : Hp} {s : Shared} {h' : Heap} {e : Addr} {cls a0 : Value} {P : List Addr}
theorem flown (I : Inv X pins σ H s) (T : Thrown X pins H s e cls a0 P) (kp : ∀ b o, b ∉ P → b ∉ frs X.stack → s.heap.get? b = some o → h'.get? b = some o) (us : s.heap.UpToSlots h') : Inv X pins σ H { s with heap := h' } := by
  have frame : ∀ b ∈ frs X.stack, ∃ o, s.heap.get? b = some o ∧ ∀ vs, o.data ≠ .fields vs := fun b hb => (I.stack.mem hb).2
  have old : ∀ b o, X.s₀.heap.get? b = some o → b ∉ P := fun b o q hb => by rw [T.new b hb] at q; cases q
  have notL : ∀ b o, X.s₀.heap.get? b = some o → b ≠ X.env.locals := fun b o q => Nat.ne_of_lt (Nat.lt_of_lt_of_le (Heap.lt_size q) I.ok.above)
  have cellK : ∀ c v, s.heap.IsCell c v → h'.IsCell c v := fun c v hq89 => by
    obtain ⟨o, ho, hd⟩ := hq89
    obtain ⟨sl, q⟩ := us c o ho fun vs z => by rw [hd] at z; cases z
    exact ⟨_, q, hd⟩
  obtain ⟨m, hn, hl⟩ := id I.loc
  refine ⟨I.ok, I.os, I.bare, ⟨fun b o eb n hb hx => ?_, fun b o eb n hb hx => ?_, I.base.free, fun b o eb hx => ?_, I.base.tups, I.base.frzs, I.base.tbls⟩, ⟨m, us.ns hn, fun i x v h1 h2 h3 => ?_⟩, fun x c ec => ?_, I.free, I.freeC, fun p hp => ?_, fun b ob eb => ?_, I.len⟩
  · exact kp b o (old b o eb) (fun z => (List.mem_cons.mp (I.stkSub b z)).elim (notL b o eb) hb) (I.base.keep b o eb n hb hx)
  · obtain ⟨sl, q⟩ := I.base.slot b o eb n hb hx
    obtain ⟨_, o2, e2, nf⟩ := I.ok.funs.mem hb
    rw [eb] at e2
    obtain rfl := Option.some.inj e2
    obtain ⟨sl2, q2⟩ := us b { o with slots := sl } q nf
    exact ⟨sl2, q2⟩
  · obtain ⟨o', q⟩ := I.base.there b o eb hx
    by_cases hf : b ∈ frs X.stack
    · obtain ⟨o2, e2, nf⟩ := frame b hf
      obtain ⟨sl, q2⟩ := us b o2 e2 nf
      exact ⟨_, q2⟩
    · exact ⟨o', kp b o' (old b o eb) hf q⟩
  · obtain ⟨u, r, l⟩ := hl i x v h1 h2 h3
    exact ⟨u, r, l.imp id fun ⟨k, c, ec, ic⟩ => ⟨k, c, ec, cellK _ _ ic⟩⟩
  · obtain ⟨v, ic⟩ := I.cell x c ec
    exact ⟨v, cellK _ _ ic⟩
  · obtain ⟨q, n, ne, nf, d⟩ := I.pin p hp
    exact ⟨kp _ _ (fun z => T.pin _ z p hp rfl) (fun z => (List.mem_cons.mp (I.stkSub _ z)).elim ne nf) q, n, ne, nf, d⟩
  · refine (I.hok b ob eb).stay (fun c u hc q => kp c u (fun z => ?_) (fun z => ?_) q) (fun _ q => q) fun _ _ q => q
    · have fr := T.free c z
      rcases hc with rfl | hc
      · rw [fr] at eb; cases eb
      · rw [fr] at hc; cases hc
    · have fr := I.stkFree c z
      rcases hc with rfl | hc
      · rw [fr] at eb; cases eb
      · rw [fr] at hc; cases hc
end
def CXW (P : Program) (w : World) : CXT := fun outer H s E e s' => ∃ (ea T : Addr) (cls a0 : Value) (H' : Hp) (oe oT : Obj) (vs ts : Array Value), e = .ref ea ∧ s'.os = s.os ∧ AllBare s'.gens ∧ Un (frs outer) [] H H' s.heap s'.heap ∧ HOk P w H' s'.heap ∧
  H' ea = none ∧ H' T = none ∧ s.heap.get? ea = none ∧ s.heap.get? T = none ∧ T ≠ ea ∧ s'.heap.get? ea = some oe ∧ (oe.cls = cls ∧ vs[0]? = some a0) ∧ oe.data = .fields vs ∧ vs[1]? = some (.ref T) ∧ s'.heap.get? T = some oT ∧ oT.data = .fields ts ∧ ts[3]? = some .none ∧ E cls none H'
section
variable {P : Program} {w : World} {K : PySem.W.Frag} {mg : Str → Option Value} {base : Heap} {N : List Str} {qual : Str} {scope : Scope} {f : Addr} {cd : Value} {A : Around} {outer : List Env} {s0 : Shared} {H0 : Hp} {E : XK}
theorem xe_leave {pins : List (Addr × Obj)} {σ : L2.St} {H : Hp} {s : Shared} {e : Addr} {cls a0 : Value} {Q : List Addr} (I : Inv (cxOf (CXW P w) P w K mg base N qual scope f cd A outer s0 H0 E) pins σ H s)
    (T : Thrown (cxOf (CXW P w) P w K mg base N qual scope f cd A outer s0 H0 E) pins H s e cls a0 Q) (hE : E cls none H) : (cxOf (CXW P w) P w K mg base N qual scope f cd A outer s0 H0 E).xe (.ref e) s := by
  generalize hX : cxOf (CXW P w) P w K mg base N qual scope f cd A outer s0 H0 E = X at I T
  have st : X.stack = X.env :: outer := by rw [← hX]; rfl
  have hin : ∀ env ∈ X.stack, ∀ b, env.frame = some b → b ∈ Q ++ frs X.stack := fun env he b hb => List.mem_append_right _ (List.mem_filterMap.mpr ⟨env, he, hb⟩)
  have stay : (PySem.W.hideAll s.heap (Q ++ frs X.stack)).StaysIn s.heap := fun b o q => PySem.W.of_hideAll _ q
  have fns : s.heap.FunFrames (PySem.W.hideAll s.heap (Q ++ frs X.stack)) X.stack := PySem.W.funFrames_hide I.stack hin
  have hen : (PySem.W.hideAll s.heap (Q ++ frs X.stack)).get? e = none := PySem.W.hideAll_none _ (List.mem_append_left _ T.mem)
  have fin : ∀ h', Heap.LeftW (PySem.W.hideAll s.heap (Q ++ frs X.stack)) X.stack e cls a0 s.heap h' → CXW P w outer H0 s0 E (.ref e) { s with heap := h' } := fun h' hq90 => by
    obtain ⟨k1, k2, k3, k4⟩ := hq90
    have J := flown I T (fun b o n1 n2 q => k1 b o (PySem.W.hideAll_get _ q fun z => (List.mem_append.mp z).elim n1 n2)) k4
    obtain ⟨oe, vs, T2, oT, ts, he, hc, hd, h1, hnT, hTe, hT, hdT, h3⟩ := k3
    have hfr : T2 ∉ frs X.stack := fun z => by
      obtain ⟨_, o, ho, nf⟩ := I.stack.mem z
      obtain ⟨sl, q⟩ := k4 T2 o ho nf
      rw [hT] at q
      cases q
      exact nf ts hdT
    have hT2 : T2 ∈ Q ∨ s.heap.get? T2 = none := by
      by_cases hq : T2 ∈ Q
      · exact .inl hq
      · right
        cases q : s.heap.get? T2 with
        | none => rfl
        | some o =>
          have := PySem.W.hideAll_get (Q ++ frs X.stack) q fun z => (List.mem_append.mp z).elim hq hfr
          rw [hnT] at this
          cases this
    have e1 : X.fs = frs outer := by rw [← hX]; rfl
    have e2 : X.ex = [] := by rw [← hX]; rfl
    have e3 : X.H₀ = H0 := by rw [← hX]; rfl
    have e4 : X.s₀ = s0 := by rw [← hX]; rfl
    have e5 : X.prog = P := by rw [← hX]; rfl
    have e6 : X.w = w := by rw [← hX]; rfl
    have b0 := J.base
    have b1 := J.hok
    have b2 := J.os
    rw [e1, e2, e3, e4] at b0
    rw [e5, e6] at b1
    rw [e4] at b2
    refine ⟨e, T2, cls, a0, H, oe, oT, vs, ts, rfl, b2, J.bare, b0, b1, T.free e T.mem, ?_, ?_, ?_, hTe, he, hc, hd, h1, hT, hdT, h3, hE⟩
    · rcases hT2 with z | z
      · exact T.free _ z
      · cases q : H T2 with
        | none => rfl
        | some o =>
          obtain ⟨u, eu⟩ := objOk_got (I.hok _ _ q)
          rw [z] at eu; cases eu
    · rw [← e4]; exact T.new e T.mem
    · rcases hT2 with z | z
      · rw [← e4]; exact T.new _ z
      · cases q : s0.heap.get? T2 with
        | none => rfl
        | some o =>
          have tb := I.base.there T2 o (by rw [e4]; exact q) (by rw [e2]; simp)
          obtain ⟨o', eo⟩ := tb
          rw [z] at eo; cases eo
  have go : wpAny (model P w) X.A (leaving X.env (.ref e)) (fun _ s'' => CXW P w outer H0 s0 E (.ref e) s'') (fun e' s'' => CXW P w outer H0 s0 E e' s'') s := by
    have hfr := I.ok.frames
    have hf : X.env.frame = some X.env.locals := by rw [← hX]; rfl
    rw [st] at hfr
    rw [st] at fns fin hen stay
    rcases T.tr with ⟨oe, vs, he, hc, hd, h1, h0⟩ | ⟨oe, vs, T2, oT, ts, he, hc, hd, h1, hm, hTe, hT, hdT, h3⟩
    · subst hc
      exact wpAny_leaving_firstW hfr fns hf he stay hen hd h1 h0 fun h' L => fin h' L
    · refine wpAny_leaving_nextW hfr fns hf ⟨oe, vs, T2, oT, ts, he, hc, hd, h1, PySem.W.hideAll_none _ (List.mem_append_left _ hm), hTe, hT, hdT, h3⟩ stay hen fun h' L => fin h' L
  rw [← hX] at go ⊢
  exact go
end
theorem thrown_call {X : Cx} {pins : List (Addr × Obj)} {σ : L2.St} {H : Hp} {s s' : Shared} {E : XK} {e : Value} (hx : X.ex = []) (I : Inv X pins σ H s) (c : CXW X.prog X.w X.stack H s E e s') :
    ∃ ea cls a0 H' Q, e = .ref ea ∧ Inv X pins σ H' s' ∧ Thrown X pins H' s' ea cls a0 Q ∧ E cls none H' := by
  obtain ⟨ea, T, cls, a0, H', oe, oT, vs, ts, rfl, os, bare, un, hok, n1, n2, g1, g2, hTe, he, hc, hd, h1, hT, hdT, h3, hE⟩ := c
  have J : Inv X pins σ H' s' := I.call' (ch := []) os un hok bare fun b z => absurd z (by simp)
  have no : ∀ q, q ∈ [ea, T] → s.heap.get? q = none := fun q hq => by
    rcases List.mem_cons.1 hq with rfl | hq
    · exact g1
    · rw [List.mem_singleton.mp hq]; exact g2
  refine ⟨ea, cls, a0, H', [ea, T], rfl, J, ⟨List.mem_cons_self, fun q hq => ?_, fun q hq => ?_, fun q hq => ?_, fun q hq p hp z => ?_, .inr ⟨oe, vs, T, oT, ts, he, hc, hd, h1, by simp, hTe, hT, hdT, h3⟩⟩, hE⟩
  · rcases List.mem_cons.1 hq with rfl | hq
    · exact n1
    · rw [List.mem_singleton.mp hq]; exact n2
  · cases k : X.s₀.heap.get? q with
    | none => rfl
    | some o =>
      obtain ⟨o', eo⟩ := I.base.there q o k (by rw [hx]; simp)
      rw [no q hq] at eo; cases eo
  · rcases List.mem_cons.1 hq with rfl | hq
    · exact ⟨oe, vs, he, hd⟩
    · rw [List.mem_singleton.mp hq]; exact ⟨oT, ts, hT, hdT⟩
  · have := (I.pin p hp).1
    rw [z, no q hq] at this; cases this
def sp5 (K : PySem.W.Frag) (mg : Str → Option Value) (R : FnF) : Sp := fun vs H Q E => ∃ (S : Addr → Prop) (ds : List D), (∀ a, H a = none → S a) ∧ Dns K S H ds vs ∧ match R ds with
  | .ok d => ∀ v H', Same H H' → Dn K S H' d v → Q v H'
  | .ex c => ∃ C : Addr, mg c = some (.ref C) ∧ ∀ H', Same H H' → E (.ref C) none H'
  | .no => False
theorem fun5 {P : Program} {w : World} {K : PySem.W.Frag} {mg : Str → Option Value} {base : Heap} {x qual : Str} {st : Stmt} {f : Addr} {fd : FuncData} {N ps : List Str} {k n np : Nat} {b : SF} (F : Fun K x qual st f fd) (S : FnScope N ps (defScope st)) (hn : N.length = n) (hp : ps.length = np)
    (hbody : ∀ (cdv : Value) (A : Around) (outer : List Env) (s : Shared) (H : Hp) (E : XK), Room k (A.deeper (envOfC qual (defScope st) s.heap.objs.size f cdv)) →
      PSs4 (cxOf (CXW P w) P w K mg base N qual (defScope st) f cdv A outer s H E) (defBody st) b) : FnOk P w K mg base (CXW P w) (k + 1) f fd ps (sp5 K mg (runF n np b)) := by
  subst hn hp
  obtain ⟨oc, od, kV, doc, pm, an, cdv, ct, osl, rfl, lk, hcd⟩ := F.ex
  have hlen : ∀ ds : List D, runF N.length ps.length b ds ≠ .no → ds.length = ps.length := fun ds h => by
    by_cases e : ds.length = ps.length
    · exact e
    · exact absurd (show runF N.length ps.length b ds = .no by unfold runF; rw [if_neg e]) h
  refine fn_of lk hcd S (fun vs H Q E h => ?_) fun A outer s H vs Q E hr h => ?_
  · obtain ⟨S', ds, _, dn, hR⟩ := h
    rw [← dn.len]
    exact hlen ds fun z => by rw [z] at hR; exact hR
  · obtain ⟨S', ds, fc, dn, hR⟩ := h
    have hl : ds.length = ps.length := hlen ds fun z => by rw [z] at hR; exact hR
    have hdn := dn.len
    refine ⟨_, hbody cdv A outer s H E hr, H, S', fun _ => 0, start3 N ds, [], { nx := fun _ => runF N.length ps.length b ds = .ok .non, rt := fun d => runF N.length ps.length b ds = .ok d, ex := fun c => runF N.length ps.length b ds = .ex c }, ?_, start_st fc dn, ?_, ⟨fun w' σ' H' ρ' _ st' q => ?_, fun v H' d s' d' q => ?_, fun _ _ _ _ _ _ q => q, fun _ _ _ _ _ _ q => q, fun c H' sm q => ?_⟩⟩
    · have hp : ps.length ≤ N.length := by have := congrArg List.length S.pre; rw [List.length_take] at this; omega
      unfold L2.start
      show _ = N.length
      rw [List.length_append, List.length_map, List.length_replicate]
      omega
    · have e2 : start3 N ds = startS N.length ds := rfl
      have e3 : runF N.length ps.length b ds = (match b (startS N.length ds) with | .rt d => .ok d | .nx _ => .ok .non | .ex c => .ex c | .no => .no) := by unfold runF; rw [if_pos hl] <;> cases b (startS N.length ds) <;> rfl
      rw [e3] at hR
      unfold wS
      rw [e2]
      cases hb : b (startS N.length ds) with
      | rt d' => rw [hb] at e3; exact e3
      | nx ρ => rw [hb] at e3; exact e3
      | ex c => rw [hb] at e3; exact e3
      | no => rw [hb] at hR; exact hR
    · rw [q] at hR
      exact hR .non H' st'.sm (by simp only [Dn])
    · rw [q] at hR
      exact hR v H' s' d'
    · rw [q] at hR
      obtain ⟨C, hm, hE⟩ := hR
      exact ⟨C, hm, fun pins σ s' e a0 P I T => xe_leave I T (hE H' sm)⟩
section
variable {X : Cx} {k : Nat} {f : Addr} {fd : FuncData} {ps : List Str} {R : FnF} {x : Str} {p pos : Pos} {e : Expr} {es : List Expr} {t : AF}
theorem call5 (F : FnOk X.prog X.w X.K X.mg X.base (CXW X.prog X.w) k f fd ps (sp5 X.K X.mg R)) (hr : Room k X.A) (hm : X.mg x = some (.ref f)) (hk : PySem.W.keepIn X.K (.ref f) = true) (hb : Binds X.K fd ps [])
    (ha : PA4 X (e :: es) t) (hg : Gl X x := by rfl) (hdb : (x == ("__debug__" : Str)) = false := by decide) (he : starEach (e :: es) X.env = (false, eval e X.env) :: starEach es X.env := by rfl) (hpl : (backTo pos (starEach es X.env)).any (·.1) = false := by rfl) :
    PE4 X (.Call (.Name x p) (e :: es) [] pos) (eCall R t) := imp (pe_call (E := E0) F hr hg hm hk hb .nil (fun pins σ H s e s' _ c => by obtain ⟨_, _, _, _, _, _, _, _, _, _, _, _, _, _, _, _, _, _, _, _, _, _, _, _, _, _, hE⟩ := c; exact hE.elim) ha hdb he hpl) fun σ H Q hq91 => by
  obtain ⟨S, ρ, Q3, fc, sl, ⟨d, ed, q3⟩, k⟩ := hq91
  obtain ⟨ds, et, ed⟩ := bnd ed
  refine ⟨S, ρ, fun z => z = ds, fc, sl, ⟨ds, et, rfl⟩, fun vs H1 ds' s1 d1 q1 => ?_⟩
  subst q1
  show sp5 X.K X.mg R (vs ++ []) H1 Q E0
  rw [List.append_nil]
  refine ⟨S, ds', fc_same fc s1, d1, ?_⟩
  cases h : R ds' with
  | ok d' => rw [h] at ed; cases ed; exact fun v H' s' d' => k v H' _ (s1.trans s') d' q3
  | no => rw [h] at ed; cases ed
  | ex c => rw [h] at ed; cases ed
def tR (X : Cx) (r : RF) : TE := fun σ H _ => ∃ (S : Addr → Prop) (ρ : DEnv) (c : Str), (∀ a, H a = none → S a) ∧ Sl X.K S H ρ σ ∧ r ρ = some c ∧ ∀ H', Same H H' → XC X c H'
def PR (X : Cx) (e : Expr) (r : RF) : Prop := PE X e (tR X r)
theorem callR5 (hx : X.ex = []) (F : FnOk X.prog X.w X.K X.mg X.base (CXW X.prog X.w) k f fd ps (sp5 X.K X.mg R)) (hr : Room k X.A) (hm : X.mg x = some (.ref f)) (hk : PySem.W.keepIn X.K (.ref f) = true) (hb : Binds X.K fd ps [])
    (ha : PA4 X (e :: es) t) (hg : Gl X x := by rfl) (hdb : (x == ("__debug__" : Str)) = false := by decide) (he : starEach (e :: es) X.env = (false, eval e X.env) :: starEach es X.env := by rfl) (hpl : (backTo pos (starEach es X.env)).any (·.1) = false := by rfl) :
    PR X (.Call (.Name x p) (e :: es) [] pos) (rCall R t) := imp (pe_call (E := fun cls _ H' => ∃ c C, cls = .ref C ∧ X.mg c = some (.ref C) ∧ XC X c H') F hr hg hm hk hb .nil (fun pins σ H s e s' I c => by
      obtain ⟨ea, cls, a0, H', Q, rfl, J, T, c, C, rfl, hmc, C2, hm2, xc⟩ := thrown_call hx I c
      rw [hmc] at hm2
      cases hm2
      exact xc pins σ s' ea a0 Q J T) ha hdb he hpl) fun σ H Q hq92 => by
  obtain ⟨S, ρ, c, fc, sl, ec, k⟩ := hq92
  obtain ⟨ds, et, ed⟩ := bnd ec
  refine ⟨S, ρ, fun z => z = ds, fc, sl, ⟨ds, et, rfl⟩, fun vs H1 ds' s1 d1 q1 => ?_⟩
  subst q1
  rw [List.append_nil]
  refine ⟨S, ds', fc_same fc s1, d1, ?_⟩
  cases h : R ds' with
  | ex c' =>
    rw [h] at ed
    cases ed
    obtain ⟨C, hmC, _⟩ := k H1 s1
    exact ⟨C, hmC, fun H' sm => ⟨c, C, rfl, hmC, k H' (s1.trans sm)⟩⟩
  | ok d => rw [h] at ed; cases ed
  | no => rw [h] at ed; cases ed
theorem pe_or2 {e : Expr} {t u : TE} (h1 : PE X e t) (h2 : PE X e u) : PE X e (fun σ H Q => t σ H Q ∨ u σ H Q) := fun pins s σ H Q I h => h.elim (h1 pins s σ H Q I) (h2 pins s σ H Q I)
theorem setR5 {i : Nat} {x : Str} {e : Expr} {f : EF} {r : RF} {pos pos' : Pos} (hN : X.N.Nodup) (h : PE4 X e f) (hr : PR X e r) (hi : X.N[i]? = some x := by rfl) (hx : Loc X.env.scope x := by first | exact .inl rfl | exact .inr rfl) (hs : swapsWith e (some (.Name x pos')) pos.line X.env = pure false := by rfl) (hf : X.fn x = true ∨ X.env.scope.names.lookup x = some .local := by first | exact .inl rfl | exact .inr rfl) :
    PS4 X (.Assign [.Name x pos'] e pos) (sThr r (sSet i f)) := impS (ps_set hN hi hx (pe_or2 hr h) hs hf) fun B σ H hq93 => by
  obtain ⟨H₀, S, w, ρ, G, E, hl, st, ht, ok⟩ := hq93
  unfold wS sThr at ht
  cases hc : r (vAll ρ) with
  | some c =>
    rw [hc] at ht
    exact .inl ⟨S, vAll ρ, c, st.fcH, st.all, hc, fun H' sm => ok.ex c H' (st.sm.trans sm) ht⟩
  | none =>
    rw [hc] at ht
    dsimp only at ht
    unfold sSet at ht
    cases hf : f (vRd ρ) with
    | none => rw [hf] at ht; exact ht.elim
    | some d =>
      rw [hf] at ht
      exact .inr ⟨_, vRd ρ, _, st.fcO, st.rd, ⟨d, hf, ht⟩, fun v H' d s' d' q' => ok.nx w _ H' _ (by rw [List.length_set]; exact hl) ((st.same s').set_ro (by rw [hl]; exact ix_lt hi) d') q'⟩
end
end L5
end
section
set_option Elab.async false
set_option linter.all false
set_option maxRecDepth 100000
set_option maxHeartbeats 3999999
namespace L5
open PySem PySem.Spec PyProof.Rows L2 L3 L4
abbrev bmV : List Value := [.type "ValueError", .type "Exception", .type "BaseException", .type "object"]
structure ExcC (K : PySem.W.Frag) (C : Addr) : Prop where
  ex : ∃ nm q N bs bm hdct sn sub ab col dd k0 k1 k2 k3 k5, K.lookup C = some (excClassObj nm q C N bs bm hdct sn sub ab col dd k0 k1 k2 k3 k5 "ValueError.__new__") ∧ PySem.W.tailIn K bmV bm = true ∧ PySem.W.nsOkIn K N = true ∧ PySem.W.nsIn K N "__init__" = some none
section
variable {X : Cx}
theorem raise5 {c : Str} {C : Addr} {e : Expr} {es : List Expr} {t : AF} {np cpos pos : Pos} (hx : X.ex = []) (hcalm : X.calm = true) (hm : X.mg c = some (.ref C)) (hC : ExcC X.K C) (ha : PA4 X (e :: es) t) (hg : Gl X c := by rfl) (hd : (c == ("__debug__" : Str)) = false := by decide)
    (he : starEach (e :: es) X.env = (false, eval e X.env) :: starEach es X.env := by rfl) (hpl : (backTo cpos (starEach es X.env)).any (·.1) = false := by rfl) :
    PS4 X (.Raise (some (.Call (.Name c np) (e :: es) [] cpos)) none pos) (sRaiseA t c) := by
  intro pins s σ H B I ⟨H₀, S, w, ρ, G, E, hl, st, ht, ok⟩
  unfold wS sRaiseA at ht
  cases et : t (vAll ρ) with
  | none => rw [et] at ht; exact ht.elim
  | some ds =>
    rw [et] at ht
    dsimp only at ht
    by_cases h10 : ds.length ≤ 10
    · rw [if_pos h10] at ht
      obtain ⟨nm, q, N, bs, bm, hdct, sn, sub, ab, col, dd, k0, k1, k2, k3, k5, lk, tl, no, ni⟩ := hC.ex
      refine wpAny_Raise_call_subT (C := C) (nm := nm) (q := q) (N := N) (bs := bs) (bm := bm) (hdct := hdct) (sn := sn) (sub := sub) (ab := ab) (col := col) (dd := dd) (k0 := k0) (k1 := k1) (k2 := k2) (k3 := k3) (k5 := k5) (mN := X.base.nsMap N)
        PySem.F.excBase_ValueError ((PySem.W.tail_of_in I.kIn tl).hasType rfl) (I.ok.hd hcalm) (by rw [he]; show (false || (backTo cpos (starEach es X.env)).any (·.1)) = false; rw [hpl]; rfl) (PySem.W.nsMap_none_of_in I.ok.mod.kin no ni) (ld_glob I hg hm ⟨rfl, ?_⟩ hd)
      have hN : X.base.Ns N (X.base.nsMap N) := .of_isNs (PySem.W.isNs_of_in I.ok.mod.kin no)
      have args := ha cpos pins s σ H (fun vs H1 => vs.length = ds.length ∧ Same H H1) I ⟨S, vAll ρ, fun z => z = ds, st.fcH, st.all, ⟨ds, et, rfl⟩, fun vs H1 ds' s1 d1 q1 => ⟨by rw [← d1.len, q1], s1⟩⟩
      rw [he] at args ⊢
      refine Calls.evalArgs_plain (wpAny_mono args (fun us s1 ⟨vs, H1, I1, r, hlen, sm⟩ => ?_) fun _ _ z => z)
      refine ⟨rfl, ?_, I1.kIn _ _ lk, hN.keeps I1.bk, PySem.W.tail_of_in I1.kIn tl, fun h' ea mk => ?_⟩
      · show us.length ≤ sizeLine
        rw [← r.length, hlen]
        exact Nat.le_trans h10 (by decide)
      · obtain ⟨C', hm', xc⟩ := ok.ex c H1 (st.sm.trans sm) ht
        rw [hm] at hm'
        cases hm'
        obtain ⟨tt, oe, _, _⟩ := mk.there
        have I2 : Inv X pins σ H1 { s1 with heap := h' } := I1.kept (t' := s1.toks) mk.keeps
        refine xc pins σ _ ea (.ref tt) [ea] I2 ⟨List.mem_cons_self, fun q hq => ?_, fun q hq => ?_, fun q hq => ?_, fun q hq p hp z => ?_, .inl ⟨_, _, oe, rfl, rfl, rfl, rfl⟩⟩
        · rw [List.mem_singleton.1 hq]
          cases k : H1 ea with
          | none => rfl
          | some o =>
            obtain ⟨u, eu⟩ := objOk_got (I1.hok _ _ k)
            rw [mk.new] at eu; cases eu
        · rw [List.mem_singleton.1 hq]
          cases k : X.s₀.heap.get? ea with
          | none => rfl
          | some o =>
            obtain ⟨o', eo⟩ := I1.base.there ea o k (by rw [hx]; simp)
            rw [mk.new] at eo; cases eo
        · rw [List.mem_singleton.1 hq]
          exact ⟨_, _, oe, rfl⟩
        · have := (I1.pin p hp).1
          rw [z, List.mem_singleton.mp hq, mk.new] at this; cases this
    · rw [if_neg h10] at ht; exact ht.elim
end
end L5
end
section
set_option Elab.async false
set_option linter.all false
set_option maxRecDepth 100000
set_option maxHeartbeats 3999999
namespace L5
open PySem PySem.Spec PyProof.Rows L2 L3 L4 PySem.W Builtin.ObjectAttr Builtin.Getset_descriptor
structure ExcQ (K : PySem.W.Frag) (C : Addr) : Prop where
  hc : isClsIn K C = true
  hm : mroIn K C (.type "object") = some true
  hs : subIn K (.ref C) (.type "BaseException") = some true
  hga : findIn K (.ref C) "__getattribute__" = some (some (.builtin "BaseException.__getattribute__"))
  hgg : findIn K (.ref C) "__getattr__" = some none
  ha : findIn K (.ref C) "__class__" = some (some (.builtin "object.__class__"))
  hn : specialIn K (.builtin "object.__class__") "__get__" = some (some (.builtin "getset_descriptor.__get__"))
  ht : takesIn K (.builtin "object.__class__") = some true
def Is (a C : Addr) (h : Heap) : Prop := ∃ o, h.get? a = some o ∧ o.cls = .ref C
section
variable {prog : Program} {w : World} {A : Around} {E : Value → Shared → Prop} {s : Shared} {K : PySem.W.Frag} {a C : Addr}
theorem is_type {M : Model} {h : Heap} (i : Is a C h) : Looks M h (typeOf (.ref a)) (.ref C) := by
  obtain ⟨o, h1, h2⟩ := i
  exact h2 ▸ Looks.andThen (Looks.ld h1) .now
theorem exc_get {tp : Value} {R : Result → Shared → Prop} (X : K.In s.heap) (i : Is a C s.heap) (q : ExcQ K C) (h : R (.ok (.ret (.ref C))) s) :
    codeAny (model prog w) A (.call (.builtin "getset_descriptor.__get__") ⟨[.builtin "object.__class__", .ref a, tp], []⟩) R s := by
  obtain ⟨hp0, g0, dr0, t0, os0⟩ := s
  have L0 := is_type (M := model prog w) i
  have L1 := looks_mroIn (M := model prog w) X q.hm
  refine codeAny_call_builtin KF.slot_gs.plain KF.entry_gs ?_; refine KF.slot_gs.check _ _ _ _ _ _ _ _ KF.type_class (KF.args_gs _ _ _) ?_
  unfold Builtin.«getset_descriptor.__get__» descrGet; rw [dga_obj]
  refine wpAny_bind (wpAny_pure ?_)
  unfold descrGetter descrCheckInstance descrNameAndClass isInstance; simp only [KF.owner_class]
  repeat lk
  refine And.intro (Code.quiet_builtin _ (by decide +kernel)) (codeAny_builtin KF.entry_class ?_)
  unfold Builtin.«object.__class__» shownTypeOf; repeat lk
  exact h
theorem exc_find {tk : Tok} {Q : PySem.Fin → Shared → Prop} (X : K.In s.heap) (i : Is a C s.heap) (q : ExcQ K C) (hq : Q (.done (.ret (.ref C))) s) : wpAny (model prog w) A (Builtin.«object.__getattribute__» ⟨[.ref a, .str "__class__" tk], []⟩) Q E s := by
  obtain ⟨hh, g, d, t, os⟩ := s
  have L0 := is_type (M := model prog w) i
  have L1 : Looks (model prog w) hh (Builtin.ObjectAttr.find (.ref a) (.ref C) "__class__") (.bind (.builtin "getset_descriptor.__get__") (.builtin "object.__class__")) :=
    have L3 : Looks (model prog w) hh (Builtin.ObjectAttr.dataDescriptor? (some (.builtin "object.__class__")) (some (.builtin "getset_descriptor.__get__"))) (some (.builtin "getset_descriptor.__get__", .builtin "object.__class__")) := (looks_takesIn X q.ht).andThen Looks.now
    (looks_findIn X q.ha).andThen ((looks_specialIn X q.hn).andThen (L3.andThen (Looks.tag .now)))
  unfold PySem.Builtin.«object.__getattribute__»
  refine wpAny_bind (wpAny_pure (wpAny_bind (wpAny_pure (wpAny_bind (L0.at (wpAny_bind (L1.at ?_)))))))
  show wpAny _ _ (holding [.builtin "object.__class__"] (call (.builtin "getset_descriptor.__get__") [.builtin "object.__class__", .ref a, .ref C]) >>= ret) _ _ _
  exact wpAny_bind (wpAny_holding (wpAny_call (exc_get (s := ⟨hh, g, d, t, os⟩) X i q (wpAny_pure hq))))
theorem exc_check {M : Model} {nv : Value} {Q : Unit → Shared → Prop} (X : K.In s.heap) (i : Is a C s.heap) (q : ExcQ K C) (hq : Q () s) : wpAny M A (checkBuiltinCall "BaseException.__getattribute__" ⟨[.ref a, nv], []⟩) Q E s := by
  obtain ⟨hh, g, d, t, os⟩ := s
  have L : Looks M hh (isInstance (.ref a) (.type "BaseException")) true := (is_type (M := M) i).andThen (looks_subIn X q.hs)
  have k1 : builtinKind "BaseException.__getattribute__" = some .slot := by decide +kernel
  have k2 : splitId "BaseException.__getattribute__" = some ("BaseException", "__getattribute__") := by decide +kernel
  simp only [checkBuiltinCall, k1, k2]
  refine wpAny_bind (L.at ?_)
  rw [if_neg (by decide)]
  exact wpAny_of_eq (F.args_bexc_ga (.ref a) nv) hq
theorem exc_by {tk : Tok} {Q : Value → Shared → Prop} (X : K.In s.heap) (i : Is a C s.heap) (q : ExcQ K C) (hq : Q (.ref C) s) : wpAny (model prog w) A (getAttrBy (.ref a) (.str "__class__" tk) false) Q E s := by
  obtain ⟨hh, g, d, t, os⟩ := s
  have L0 := is_type (M := model prog w) i
  have L1 := looks_findIn (M := model prog w) X q.hga
  have L2 := looks_findIn (M := model prog w) X q.hgg
  unfold getAttrBy
  refine wpAny_holding (wpAny_bind (L0.at ?_)); refine wpAny_bind (L1.at ?_)
  dsimp only
  have ne : (Value.builtin "BaseException.__getattribute__" == Value.builtin "object.__getattribute__") = false := by decide +kernel
  rw [ne, Bool.and_false, if_neg Bool.false_ne_true]
  unfold getAttrByItsOwn hookBefore
  rw [if_pos (show onTheHeap (Value.ref C) = true from rfl)]
  refine wpAny_bind (L2.at (wpAny_bind (wpAny_attempt (wpAny_holding ?_))))
  unfold callGetattribute
  rw [if_neg (by simp)]
  unfold boundAndCalled
  refine wpAny_bind (wpAny_of_eq (F.excAttr_ValueError.ga.bind (.ref a)) ?_)
  refine wpAny_call (codeAny_call_builtin F.excAttr_ValueError.ga.plain F.entry_bexc_ga (exc_check (s := ⟨hh, g, d, t, os⟩) X i q (exc_find (s := ⟨hh, g, d, t, os⟩) X i q ?_)))
  exact handed_on rfl hq
theorem exc_attr {Q : Option Value → Shared → Prop} (X : K.In s.heap) (i : Is a C s.heap) (q : ExcQ K C) (hq : Q (some (.ref C)) { s with toks := s.toks + 1 }) : wpAny (model prog w) A (getAttr? (.ref a) "__class__") Q E s := by
  obtain ⟨hh, g, d, t, os⟩ := s
  unfold getAttr? getAttrBy?
  refine wpAny_bind (wpAny_mkText (wpAny_bind (wpAny_attempt ?_)))
  exact exc_by (s := ⟨hh, g, d, t + 1, os⟩) X i q (wpAny_pure hq)
theorem kitx_exc (q : ExcQ K C) : KitX K (.ref a) (.ref C) (Is a C) where
  ty := fun _ _ _ i => is_type i
  it := fun _ _ X _ => by
    have hc : (clsIn K C).isSome = true := q.hc
    unfold clsIn at hc
    split at hc
    · rename_i lk
      intro A' Q' E' s' k h
      unfold isType loadHead
      exact wpAny_bind (wpAny_loadPart (k _ _ (X _ _ lk)) (wpAny_pure h))
    · cases hc
  ne := fun h tp d0 its n0 sl0 X htp => by
    have hc : (clsIn K C).isSome = true := q.hc
    refine Bool.eq_false_iff.mpr fun z => ?_
    obtain rfl : C = tp := Value.ref.inj (beq_iff_eq.mp z)
    unfold clsIn at hc
    split at hc
    · rename_i lk
      cases (X _ _ lk).symm.trans htp
    · cases hc
  ca := fun X i k => exc_attr X i q k
end
end L5
end
section
set_option Elab.async false
set_option linter.all false
set_option maxRecDepth 100000
set_option maxHeartbeats 3999999
namespace L5
open PySem PySem.Spec PyProof.Rows L2 L3 L4
section
variable {X : Cx}
def Caught (X : Cx) (e C : Addr) : Prop := ∃ oe : Obj, (e, oe) ∈ X.pn ∧ oe.cls = .ref C
theorem Caught.is {e C : Addr} {pins : List (Addr × Obj)} {σ : L2.St} {H : Hp} {s : Shared} (h : Caught X e C) (I : Inv X pins σ H s) : Is e C s.heap := by
  obtain ⟨oe, hm, hc⟩ := h
  exact ⟨oe, (I.pin _ (List.mem_append_left _ hm)).1, hc⟩
theorem call_isE {e C : Addr} {v : V} {u : Value} {b : Bool} (hp : Caught X e C) (q : ExcQ X.K C) (hu : ∀ u', RelV v u' → u' = u) (hb : PySem.W.kitOne X.K (.ref C) u = some b) :
    CallR X (.builtin "isinstance") (fun xs H Q => xs = [.ref e, v] ∧ Q (.bl b) H) := by
  intro pins s σ H xs us Q I r h
  obtain ⟨rfl, h⟩ := h
  obtain ⟨u1, u2, rfl, r1, r2⟩ := vals2 r
  cases r1
  obtain rfl := hu u2 r2
  exact PySem.W.kia_one (kitx_exc q) I.kIn (hp.is I) hb (fun z => nomatch z) fun tk => ⟨.bl b, H, I.tok tk, rfl, h⟩
theorem isE4 {i : Nat} {n x c : Str} {e C D : Addr} {b : Bool} {p p1 p2 pos : Pos} (hp : Caught X e C) (q : ExcQ X.K C) (hm : X.mg "isinstance" = none) (hD : X.mg x = some (.ref D)) (hb : PySem.W.kitOne X.K (.ref C) (.ref D) = some b)
    (hN : X.N[i]? = some n := by rfl) (hv : Vis X.env.scope n := by first | exact Or.inl rfl | exact Or.inr (Or.inl rfl) | exact Or.inr (Or.inr rfl)) (hd : (n == ("__debug__" : Str)) = false := by decide) (hcd : (n == ("__classdict__" : Str)) = false := by decide)
    (hg : Gl X "isinstance" := by rfl) (hgx : Gl X x := by rfl) (hdx : (x == ("__debug__" : Str)) = false := by decide)
    (hs : starEach [.Name n p1, .Name x p2] X.env = (false, eval (.Name n p1) X.env) :: starEach [.Name x p2] X.env := by rfl) (hs2 : starEach [.Name x p2] X.env = (false, eval (.Name x p2) X.env) :: starEach [] X.env := by rfl) (hpl : (backTo pos (starEach [.Name x p2] X.env)).any (·.1) = false := by rfl) :
    PE4 X (.Call (.Name "isinstance" p) [.Name n p1, .Name x p2] [] pos) (eIsE c e b i) :=
  imp (pe_callB (call_isE (v := .ref D) hp q (fun u' r => by cases r; rfl) hb) hg hm PyProof.Rows.boot_isinstance (pa_cons (x4 i hN hv hd hcd) (pa_cons (pe_glob (v := .ref D) hgx hD rfl hdx) pa_nil hs2) hs) (by decide) (by decide) hs hpl) fun σ H Q hq94 => by
    obtain ⟨S, ρ, Q3, fc, sl, ⟨d, ed, q3⟩, k⟩ := hq94
    obtain ⟨ev, rfl⟩ := eIsE_of ed
    refine ⟨S, ρ, fun z => z = .exc c e, fc, sl, ⟨_, ev, rfl⟩, fun v H1 d s1 d1 q1 => ?_⟩
    subst q1
    simp only [Dn] at d1
    subst d1
    exact ⟨rfl, k _ H1 _ s1 (by simp only [Dn]) q3⟩
theorem isET4 {i : Nat} {n x c : Str} {e C : Addr} {T : String} {b : Bool} {p p1 p2 pos : Pos} (hp : Caught X e C) (q : ExcQ X.K C) (hm : X.mg "isinstance" = none) (hD : X.mg x = none) (hbt : bootBuiltins x = some (.type T)) (hb : PySem.W.kitOne X.K (.ref C) (.type T) = some b)
    (hN : X.N[i]? = some n := by rfl) (hv : Vis X.env.scope n := by first | exact Or.inl rfl | exact Or.inr (Or.inl rfl) | exact Or.inr (Or.inr rfl)) (hd : (n == ("__debug__" : Str)) = false := by decide) (hcd : (n == ("__classdict__" : Str)) = false := by decide)
    (hg : Gl X "isinstance" := by rfl) (hgx : Gl X x := by rfl) (hnx : x ≠ "__name__" := by decide) (hdx : (x == ("__debug__" : Str)) = false := by decide)
    (hs : starEach [.Name n p1, .Name x p2] X.env = (false, eval (.Name n p1) X.env) :: starEach [.Name x p2] X.env := by rfl) (hs2 : starEach [.Name x p2] X.env = (false, eval (.Name x p2) X.env) :: starEach [] X.env := by rfl) (hpl : (backTo pos (starEach [.Name x p2] X.env)).any (·.1) = false := by rfl) :
    PE4 X (.Call (.Name "isinstance" p) [.Name n p1, .Name x p2] [] pos) (eIsE c e b i) :=
  imp (pe_callB (call_isE (v := .ty T) hp q (fun u' r => r) hb) hg hm PyProof.Rows.boot_isinstance (pa_cons (x4 i hN hv hd hcd) (pa_cons (pe_bltn (v := .ty T) hgx hD hbt rfl hnx hdx) pa_nil hs2) hs) (by decide) (by decide) hs hpl) fun σ H Q hq95 => by
    obtain ⟨S, ρ, Q3, fc, sl, ⟨d, ed, q3⟩, k⟩ := hq95
    obtain ⟨ev, rfl⟩ := eIsE_of ed
    refine ⟨S, ρ, fun z => z = .exc c e, fc, sl, ⟨_, ev, rfl⟩, fun v H1 d s1 d1 q1 => ?_⟩
    subst q1
    simp only [Dn] at d1
    subst d1
    exact ⟨rfl, k _ H1 _ s1 (by simp only [Dn]) q3⟩
end
end L5
end
section
set_option Elab.async false
set_option linter.all false
set_option maxRecDepth 100000
set_option maxHeartbeats 3999999
namespace L5
open PySem PySem.Spec PyProof.Rows L2 L3 L4
def hcx (X : Cx) (hd : Option Value) (pn : List (Addr × Obj)) : Cx := { X with A := X.A.mark hd, calm := false, pn := pn, xe := fun _ _ => False }
section
variable {X : Cx} {pins : List (Addr × Obj)} {σ : L2.St} {H : Hp} {s : Shared}
theorem none_at {n i : Nat} {v : V} (h : (List.replicate n (none : Option V))[i]? = some (some v)) : False := by
  rw [List.getElem?_replicate] at h
  split at h <;> cases h
theorem recx {hd : Option Value} {pn : List (Addr × Obj)} (I : Inv X pins σ H s) (hp : ∀ p ∈ pn, s.heap.get? p.1 = some p.2 ∧ H p.1 = none ∧ p.1 ≠ X.env.locals ∧ p.1 ∉ X.fs ∧ ∀ v, p.2.data ≠ .cell v) :
    Inv (hcx X hd pn) [] (List.replicate X.N.length none) H s := by
  obtain ⟨m, hn, _⟩ := id I.loc
  refine ⟨⟨I.ok.mod, I.ok.kind, I.ok.glob, I.ok.blt, I.ok.above, I.ok.inj, I.ok.has, I.ok.cab, fun z => (nomatch z), ?_, I.ok.stk, I.ok.exf, I.ok.bs, I.ok.bsz, I.ok.noex, I.ok.exfs, I.ok.funs, I.ok.frf⟩, I.os, I.bare, I.base, ⟨m, hn, fun i x v _ h2 _ => (none_at h2).elim⟩, I.cell, I.free, I.freeC, fun p h => ?_, I.hok, by show (List.replicate X.N.length none).length = X.N.length; rw [List.length_replicate]⟩
  · exact I.ok.frames
  · have h : p ∈ pn ++ [] := h
    rw [List.append_nil] at h
    exact hp p h
theorem rback {X : Cx} {pins pinsY pn : List (Addr × Obj)} {hd : Option Value} {σ' : L2.St} {H : Hp} {s : Shared} (ok : X.Ok) (I : Inv (hcx X hd pn) pinsY σ' H s) (sub : ∀ p ∈ X.pn ++ pins, p ∈ pn) : Inv X pins (List.replicate X.N.length none) H s := by
  obtain ⟨m, hn, _⟩ := id I.loc
  exact ⟨ok, I.os, I.bare, I.base, ⟨m, hn, fun i x v _ h2 _ => (none_at h2).elim⟩, I.cell, I.free, I.freeC, fun p h => I.pin p (List.mem_append_left _ (sub p h)), I.hok, by rw [List.length_replicate]⟩
theorem wiped {h' : Heap} {m' : Str → Option Value} {t : Nat} (I : Inv X pins σ H s) (hn : h'.Ns X.env.locals m') (hs : Heap.SameBut X.env.locals s.heap h') : Inv X pins (List.replicate X.N.length none) H { s with heap := h', toks := t } := by
  have notL : ∀ b o, X.s₀.heap.get? b = some o → b ≠ X.env.locals := fun b o q => Nat.ne_of_lt (Nat.lt_of_lt_of_le (Heap.lt_size q) I.ok.above)
  refine ⟨I.ok, I.os, I.bare, ⟨fun b o e n hb hx => (hs.2 b (notL b o e)).trans (I.base.keep b o e n hb hx), fun b o e n hb hx => ?_, I.base.free, fun b o e hx => ?_, I.base.tups, I.base.frzs, I.base.tbls⟩, ⟨m', hn, fun i x v _ h2 _ => (none_at h2).elim⟩, fun x c e => ?_, I.free, I.freeC, fun p hp => ?_, fun b ob e => ?_, by rw [List.length_replicate]⟩
  · obtain ⟨sl, q⟩ := I.base.slot b o e n hb hx
    exact ⟨sl, (hs.2 b (notL b o e)).trans q⟩
  · obtain ⟨o', q⟩ := I.base.there b o e hx
    exact ⟨o', (hs.2 b (notL b o e)).trans q⟩
  · obtain ⟨v, ic⟩ := I.cell x c e
    exact ⟨v, ic.sameBut hs (I.cne x c e)⟩
  · obtain ⟨q, n, ne, nf, d⟩ := I.pin p hp
    exact ⟨(hs.2 _ ne).trans q, n, ne, nf, d⟩
  · refine (I.hok b ob e).stay (fun c u hc q => (hs.2 c fun z => ?_).trans q) (fun _ q => q) fun _ _ q => q
    rcases hc with rfl | hc
    · rw [z, I.free] at e; cases e
    · rw [z, I.free] at hc; cases hc
end
section
variable {X : Cx}
theorem looked {pins : List (Addr × Obj)} {σ : L2.St} {H : Hp} {s : Shared} {e : Addr} {cls a0 : Value} {P : List Addr} {E : Value → Shared → Prop} {Q : Shared → Prop} (hst : X.stack = X.env :: X.outer) (hf : X.env.frame = some X.env.locals) (I : Inv X pins σ H s) (T : Thrown X pins H s e cls a0 P)
    (k : ∀ h', Inv X pins σ H { s with heap := h' } → h'.TracedW (PySem.W.hideAll s.heap (P ++ frs X.stack)) e cls a0 → (PySem.W.hideAll s.heap (P ++ frs X.stack)).StaysIn h' → h'.FunFrames (PySem.W.hideAll s.heap (P ++ frs X.stack)) X.stack → s.heap.UpToSlots h' → Q { s with heap := h' }) :
    wpAny (model X.prog X.w) X.A (noteFrame (.ref e) X.env) (fun _ s2 => wpAny (model X.prog X.w) X.A (setFlight (.ref e) none) (fun _ s3 => Q s3) E s2) E s := by
  have hin : ∀ env ∈ X.stack, ∀ b, env.frame = some b → b ∈ P ++ frs X.stack := fun env he b hb => List.mem_append_right _ (List.mem_filterMap.mpr ⟨env, he, hb⟩)
  have stay : (PySem.W.hideAll s.heap (P ++ frs X.stack)).StaysIn s.heap := fun b o q => PySem.W.of_hideAll _ q
  have fns : s.heap.FunFrames (PySem.W.hideAll s.heap (P ++ frs X.stack)) X.stack := PySem.W.funFrames_hide I.stack hin
  have hen : (PySem.W.hideAll s.heap (P ++ frs X.stack)).get? e = none := PySem.W.hideAll_none _ (List.mem_append_left _ T.mem)
  generalize hB : PySem.W.hideAll s.heap (P ++ frs X.stack) = B at *
  have next : ∀ h', Heap.NotedW B X.stack e cls a0 (rawInt X.env.locals) s.heap h' → wpAny (model X.prog X.w) X.A (setFlight (.ref e) none) (fun _ s3 => Q s3) E { s with heap := h' } := fun h' hq96 => by
    obtain ⟨k1, k2, k3, k4⟩ := hq96
    refine wpAny_setFlight_noneW (s := { s with heap := h' }) k1 k2 k3 fun h2 j1 j2 j3 j4 => ?_
    have us : s.heap.UpToSlots h2 := fun b o eb nf => by
      obtain ⟨sl, q⟩ := k4 b o eb nf
      exact ⟨sl, j4 b _ q nf⟩
    refine k h2 (flown I T (fun b o n1 n2 q => j1 b o ?_) us) j3 j1 j2 us
    rw [← hB]
    exact PySem.W.hideAll_get _ q fun z => (List.mem_append.mp z).elim n1 n2
  have hfr := I.ok.frames
  rw [hst] at hfr fns next
  rcases T.tr with ⟨oe, vs, he, hc, hd, h1, h0⟩ | ⟨oe, vs, T2, oT, ts, he, hc, hd, h1, hm, hTe, hT, hdT, h3⟩
  · subst hc
    unfold noteFrame
    simp only [hf]
    refine wpAny_bind (wpAny_field (x := .none) he hd h1 ?_)
    rw [if_neg (by decide)]
    exact wpAny_entryW hfr fns hf he stay hen hd (Array.getElem?_eq_some_iff.mp h1).1 h0 next
  · have hT2 : B.get? T2 = none := by rw [← hB]; exact PySem.W.hideAll_none _ (List.mem_append_left _ hm)
    exact wpAny_noteFrame_onW hfr fns hf ⟨oe, vs, T2, oT, ts, he, hc, hd, h1, hT2, hTe, hT, hdT, h3⟩ stay hen next
end
end L5
end
section
set_option Elab.async false
set_option linter.all false
set_option maxRecDepth 100000
set_option maxHeartbeats 3999999
namespace L5
open PySem PySem.Spec PyProof.Rows L2 L3 L4
section
variable {X : Cx}
theorem no_tt {p : Prop} (h : false = true) : p := nomatch h
noncomputable def ExI (mro : List Value) (sl : List (Option Value)) (P : Addr → List Value → String → Bool) : Prop := ∃ C1 bm y0 y1 y2 y3 n y5, mro = .ref C1 :: bm ∧ sl = [y0, y1, y2, y3, some (.builtin n), y5] ∧ P C1 bm n = true
theorem exc_inner {mro : List Value} {sl : List (Option Value)} {P : Addr → List Value → String → Bool} (h : PySem.W.excIn.match_1 (fun _ _ => Bool) mro sl (fun C1 bm _ _ _ _ n _ => P C1 bm n) (fun _ _ => false) = true) :
    ExI mro sl P := by
  cases mro with
  | nil => exact no_tt h
  | cons v bm =>
  cases v with
  | ref C1 =>
    cases sl with
    | nil => exact no_tt h
    | cons y0 sl =>
    cases sl with
    | nil => exact no_tt h
    | cons y1 sl =>
    cases sl with
    | nil => exact no_tt h
    | cons y2 sl =>
    cases sl with
    | nil => exact no_tt h
    | cons y3 sl =>
    cases sl with
    | nil => exact no_tt h
    | cons y4 sl =>
    cases y4 with
    | none => exact no_tt h
    | some w =>
    cases w with
    | builtin n =>
      cases sl with
      | nil => exact no_tt h
      | cons y5 sl =>
      cases sl with
      | cons z sl => exact no_tt h
      | nil => exact ⟨C1, bm, y0, y1, y2, y3, n, y5, rfl, rfl, h⟩
    | _ => exact no_tt h
  | _ => exact no_tt h
theorem excC_of {K : PySem.W.Frag} {C : Addr} (h : PySem.W.excIn K C bmV "ValueError.__new__" = true) : ExcC K C := by
  unfold PySem.W.excIn at h
  split at h
  · rename_i dd cd sl lk
    obtain ⟨C1, bm, y0, y1, y2, y3, n, y5, e1, e2, h⟩ := exc_inner h
    obtain ⟨a1, a2, a3, a4, a5, a6, a7, a8, a9, a10, a11⟩ := cd
    obtain ⟨sl⟩ := sl
    dsimp only at e1 e2 h
    subst e1 e2
    simp only [Bool.and_eq_true, beq_iff_eq, Bool.not_eq_true'] at h
    obtain ⟨⟨⟨⟨⟨g1, g2⟩, g3⟩, g4⟩, g5⟩, g6⟩ := h
    subst g1 g2 g3
    exact ⟨⟨a1, a5, a4, a2, bm, a6, a7, a8, a9, a10, dd, y0, y1, y2, y3, y5, lk, g4, g5, g6⟩⟩
  · cases h
end
end L5
end
section
set_option Elab.async false
set_option linter.all false
set_option maxRecDepth 100000
set_option maxHeartbeats 3999999
namespace L5
open PySem PySem.Spec PyProof.Rows L2 L3 L4 PySem.W
variable {K : PySem.W.Frag} {C D : Addr}
structure NotSub (K : PySem.W.Frag) (C D : Addr) : Prop where
  ne : (Value.ref C == Value.ref D) = false
  c : isClsIn K D = true
  t : typeIn K (.ref D) = some (.type "type")
  s : subIn K (.ref C) (.ref D) = some false
theorem kitCls_of {t : Value} {b : Bool} (c : isClsIn K D = true) (ht : typeIn K (.ref D) = some (.type "type")) (s : subIn K t (.ref D) = some b) : kitCls K t (.ref D) = some b := by
  have c : (clsIn K D).isSome = true := c
  unfold kitCls
  dsimp only
  rw [c, ht, if_pos (by decide)]
  exact s
theorem NotSub.one (n : NotSub K C D) : kitOne K (.ref C) (.ref D) = some false := by
  unfold kitOne
  rw [n.ne, if_neg Bool.false_ne_true]
  exact kitCls_of n.c n.t n.s
theorem kit_self : kitOne K (.ref C) (.ref C) = some true := by
  unfold kitOne
  rw [if_pos (by simp)]
theorem kitT_of {T : String} {b : Bool} (k : kitMeta T = true) (s : subIn K (.ref C) (.type T) = some b) : kitOne K (.ref C) (.type T) = some b := by
  unfold kitOne
  rw [if_neg (show ¬ (Value.ref C == Value.type T) = true from fun z => by cases beq_iff_eq.mp z)]
  unfold kitCls
  dsimp only
  rw [if_pos k]
  exact s
theorem exm_of {b : Bool} (e1 : subIn K (.ref D) (.type "BaseException") = some true) (e2 : isClsIn K D = true) (e3 : typeIn K (.ref D) = some (.type "type")) (e4 : subIn K (.ref C) (.ref D) = some b) : exmOne K (.ref C) (.ref D) = some b := by
  unfold exmOne
  rw [e1, if_pos (by decide)]
  exact kitCls_of e2 e3 e4
end L5
end
section
set_option Elab.async false
set_option linter.all false
set_option maxRecDepth 100000
set_option maxHeartbeats 3999999
namespace L5
open PySem PySem.Spec PyProof.Rows L2 L3 L4
section
variable {X : Cx}
end
end L5
end
section
set_option Elab.async false
set_option linter.all false
set_option maxRecDepth 100000
set_option maxHeartbeats 3999999
namespace L5
open PySem PySem.Spec PyProof.Rows L2 L3 L4 Att
section
variable {X : Cx} {pins : List (Addr × Obj)} {σ : L2.St} {H : Hp} {s : Shared}
theorem inv_new {D : Addr} {u : HO} {m : Str → Option Value} {h' : Heap} {t' : Nat} (I : Inv X pins σ H s) (hns : s.heap.Ns X.env.locals m) (ns' : h'.Ns X.env.locals m) (keep2 : ∀ b o, b ≠ X.env.locals → s.heap.get? b = some o → h'.get? b = some o) (dead : s.heap.get? D = none)
    (ok : ObjOk X.prog X.w (upd H D u) h' D u) : H D = none ∧ Inv X pins σ (upd H D u) { s with heap := h', toks := t' } := by
  have hfr : H D = none := by
    cases e : H D with
    | none => rfl
    | some u =>
      obtain ⟨o, eo⟩ := objOk_got (I.hok D u e)
      rw [dead] at eo
      cases eo
  have neD : ∀ {b : Addr} {o : Obj}, s.heap.get? b = some o → b ≠ D := fun {b o} e z => by rw [z, dead] at e; cases e
  have neH : ∀ {b : Addr} {u : HO}, H b = some u → b ≠ D := fun {b u} e z => by rw [z, hfr] at e; cases e
  refine ⟨hfr, ?_⟩
  show L2.Inv X pins σ _ { s with heap := h', toks := t' }
  refine I.step (s := s) (h' := h') (g' := s.gens) (t' := t') (d' := s.drawn) (ch := []) (fun b hb => nomatch hb) (fun b o hb _ _ e _ => keep2 b o hb e) (fun b o hb _ _ e _ => ⟨o.slots, keep2 b o hb e⟩) (fun b o _ e n => by rw [upd_ne (neD e)]; exact n) (fun b o _ e => ?_)
    (fun b xs e => by rw [upd_ne (neH e)]; exact e) (fun b o u e => by rw [upd_ne (neH e)]; exact e) (fun b ps e => ⟨#[], by rw [upd_ne (neH e), e]; simp⟩) (fun m2 hm2 => ?_) ?_ I.bare
  · by_cases hb : b = X.env.locals
    · subst hb
      obtain ⟨o2, _, _, e2, _⟩ := ns'
      exact ⟨o2, e2⟩
    · exact ⟨o, keep2 b o hb e⟩
  · have : m2 = m := by
      obtain ⟨oa, ea, pa, h1, h2, _, h3⟩ := hm2
      obtain ⟨ob, eb, pb, k1, k2, _, k3⟩ := hns
      rw [h1] at k1
      cases k1
      rw [h2] at k2
      cases k2
      funext x
      rw [← h3, ← k3]
    subst this
    exact ns'
  · intro b v e
    by_cases hb : b = D
    · subst hb
      rw [upd_same] at e
      cases e
      exact ok
    · rw [upd_ne hb] at e
      refine (I.hok b v e).stay (fun c w hc ew => keep2 c w (fun z => ?_) ew) (fun c ec => by rw [upd_ne (neH ec)]; exact ec) fun c ys ec => by rw [upd_ne (neH ec)]; exact ec
      subst z
      rcases hc with hc | hc
      · rw [← hc, I.free] at e; cases e
      · rw [I.free] at hc; cases hc
def rSplit : V → List V → Hp → VK → Prop := fun x xs H Q => ∃ z y, x = .str z ∧ xs = [.str y] ∧ z.length + 2 ≤ sizeLine ∧ (y.length == 0) = false ∧ ∀ l, H l = none → Q (.ref l) (upd H l (.lst ((Txt.split z y).map V.str)))
theorem vals_strs : ∀ l : List (Str × Tok), Vals ((l.map (·.1)).map V.str) (strValues l)
  | [] => .nil
  | p :: r => .cons ⟨p.2, rfl⟩ (vals_strs r)
theorem mt_split : MtR X "str.split" rSplit := by
  intro pins s σ H x xs v us Q I rx r h
  obtain ⟨z, y, rfl, rfl, hz, hy, q⟩ := h
  obtain ⟨u, rfl, ty, rfl⟩ := vals1 r
  obtain ⟨tz, rfl⟩ := rx
  obtain ⟨m, hns, _⟩ := id I.loc
  refine splitN1 (h₀ := noObjs s.heap) (L := X.env.locals) (m := m) (news := ledger s.heap X.env.locals s.heap.objs.size) (fr_all hns) (fun p hp => ?_) hy (fun l h' k e F N => ?_) hz
  · obtain ⟨x, o⟩ := p
    obtain ⟨n1, _, e⟩ := mem_ledger.mp hp
    exact ⟨e, n1, noObjs_get _ _⟩
  · have dead : s.heap.get? s.heap.objs.size = none := Heap.get?_none_of_le (Nat.le_refl _)
    obtain ⟨hf, I'⟩ := inv_new (D := s.heap.objs.size) (u := .lst ((Txt.split z y).map V.str)) (t' := k) I hns F.ns (fun b o hb e => (N (b, o) (List.mem_cons_of_mem _ (mem_ledger.mpr ⟨hb, Nat.ne_of_lt (Heap.lt_size e), e⟩))).1) dead
      ⟨by rw [List.length_map]; exact Nat.le_trans (PyProof.Rows.fact_split z y).2 hz, strValues l, 0, by rw [← e]; exact vals_strs l, (N _ (List.mem_cons_self ..)).1⟩
    exact ⟨.ref s.heap.objs.size, _, I', rfl, q _ hf⟩
theorem dns_strs {K : PySem.W.Frag} {S : Addr → Prop} {H : Hp} : ∀ l : List Str, Dns K S H (l.map D.str) (l.map V.str)
  | [] => Dns.nil
  | x :: r => Dns.cons (by simp only [Dn]) (dns_strs r)
theorem splitM_of {a b d : D} (h : splitM a b = some d) : ∃ x y, a = .str x ∧ b = .str y ∧ (x.length + 2 ≤ szL ∧ (y.length == 0) = false) ∧ d = .lst ((Txt.split x y).map D.str) := by
  unfold splitM at h
  split at h
  · split at h
    · rename_i z
      cases h
      exact ⟨_, _, rfl, rfl, z, rfl⟩
    · cases h
  · cases h
theorem split4 {o e : Expr} {fo fe : EF} {apos cpos : Pos} (ho : PE4 X o fo) (he : PE4 X e fe) (hbase : attributeBase o "split" X.env (eval o X.env) = eval o X.env := by rfl)
    (hfew : ((backTo cpos (starEach [e] X.env)).all (fun x => !x.1) && (backToKw cpos (keywordEach [] X.env)).all (fun x => x.1.isSome)
      && decide ([e].length + ([] : List Keyword).length + (if ([] : List Keyword).isEmpty then 0 else 1) < 30)) = true := by rfl)
    (hline : (apos.endLine == cpos.line) = true := by rfl) (hs : starEach [e] X.env = (false, eval e X.env) :: starEach [] X.env := by rfl) (hplain : (backTo cpos (starEach [] X.env)).any (·.1) = false := by rfl) :
    PF4 X (.Call (.Attribute o "split" apos) [e] [] cpos) (eBin splitM fo fe) :=
  imp (pe_bm F.plainAttrs_str F.slot_str_split F.type_str_split mt_split ho (pa_cons he pa_nil hs) hbase hfew hline hs hplain) fun σ H Q hq97 => by
    obtain ⟨S, ρ, Q3, fc, sl, ⟨d, ed, q3⟩, k⟩ := hq97
    obtain ⟨dx, ex, ed⟩ := bnd ed
    obtain ⟨dy, ey, ed⟩ := bnd ed
    obtain ⟨x, y, rfl, rfl, hz, rfl⟩ := splitM_of ed
    refine ⟨S, ρ, fun z => z = .str x, fc, sl, ⟨_, ex, rfl⟩, fun v H1 d1 s1 dn1 q1 => ?_⟩
    subst q1
    simp only [Dn] at dn1
    subst dn1
    refine ⟨rfl, S, ρ, fun z => z = .str y, fc_same fc s1, Sl.fits (.same s1) sl, ⟨_, ey, rfl⟩, fun v2 H2 d2 s2 dn2 q2 => ?_⟩
    subst q2
    simp only [Dn] at dn2
    subst dn2
    exact ⟨x, y, rfl, rfl, hz.1, hz.2, fun l hl => k l _ _ _ ((s1.trans s2).free hl) upd_same ((s1.trans s2).trans (same_upd hl)) (dns_strs _) q3⟩
end
end L5
end
section
set_option Elab.async false
set_option linter.all false
set_option maxRecDepth 100000
set_option maxHeartbeats 3999999
namespace L5
open PySem PySem.Spec PyProof.Rows L2 L3 L4
section
variable {X : Cx}
def repF : F2
  | .lst a, .int n, Q => a.length * n.toNat ≤ sizeLine ∧ -(2 ^ 63) ≤ n ∧ n < 2 ^ 63 ∧ Q (.lst (List.replicate n.toNat a).flatten)
  | _, _, _ => False
theorem dns_rep {K : PySem.W.Frag} {S : Addr → Prop} {H : Hp} {ds : List D} {xs : List V} (h : Dns K S H ds xs) : ∀ n : Nat, Dns K S H (List.replicate n ds).flatten (List.replicate n xs).flatten
  | 0 => Dns.nil
  | n + 1 => by
    rw [List.replicate_succ, List.replicate_succ, List.flatten_cons, List.flatten_cons]
    exact h.append (dns_rep h n)
theorem rep3 {a b : Expr} {pos : Pos} {ta tb : WE} (ha : PE3 X a ta) (hb : PE3 X b tb) : PF3 X (.BinOp a .Mult b pos) (wBin repF ta tb) := imp (pe_op op_rep ha hb) fun σ H Q h => by
  obtain ⟨S, ρ, Q3, fc, sl, ht, k⟩ := h
  refine ⟨S, ρ, _, fc, sl, ht, fun v H1 d s1 d1 q1 => ?_⟩
  refine ⟨S, ρ, _, fc_same fc s1, Sl.fits (.same s1) sl, q1, fun u H2 d2 s2 d2' q2 => ?_⟩
  cases d <;> cases d2 <;> try exact q2.elim
  rename_i ds n
  simp only [Dn] at d1 d2'
  obtain ⟨a, xs, rfl, ha, sa, da⟩ := d1
  subst d2'
  have da' := Dns.fits (.same s2) _ _ da
  obtain ⟨z1, z2, z3, q3⟩ := q2
  refine ⟨a, n, xs, rfl, rfl, s2 _ _ ha, z2, z3, by rw [← da.len]; exact z1, fun p hp => k p _ _ _ ((s1.trans s2).free hp) upd_same ((s1.trans s2).trans (same_upd hp)) ?_ q3⟩
  exact Dns.fits ((Fits.fresh hp).trans (.same (same_upd hp))) _ _ (dns_rep da' _)
theorem tells_rep : Tells repF repLM := fun x y d Q e q => by
  cases x <;> first | (cases e; done) | skip
  cases y <;> first | (cases e; done) | skip
  rename_i a n
  have e : (if a.length * n.toNat ≤ szL ∧ n.natAbs < 9223372036854775808 then some (D.lst (List.replicate n.toNat a).flatten) else none) = some d := e
  by_cases h : a.length * n.toNat ≤ szL ∧ n.natAbs < 9223372036854775808
  · rw [if_pos h] at e
    cases e
    exact ⟨by rw [sizeLine_eq]; exact h.1, by have := h.2; omega, by have := h.2; omega, q⟩
  · rw [if_neg h] at e; cases e
theorem repL4 {a b : Expr} {fa fb : EF} {pos : Pos} (ha : PE4 X a fa) (hb : PE4 X b fb) : PF4 X (.BinOp a .Mult b pos) (eBin repLM fa fb) := cF (rep3 ha hb) (bin_w tells_rep)
end
end L5
end
section
set_option Elab.async false
set_option linter.all false
set_option maxRecDepth 100000
set_option maxHeartbeats 3999999
namespace L5
open PySem PySem.Spec PyProof.Rows L2 L3 L4
section
variable {X : Cx}
section
variable {ls fs : List Str} {fr : List Nat} {sc : Scope} {tg iter elt : Expr} {ifs : List Expr} {pos : Pos} {i : Nat} {x : Str} {spos pos' : Pos}
variable {it : AF} {g : GEF} {t : TF} {e : EF}
end
end
end L5
end
section
set_option Elab.async false
set_option linter.all false
set_option maxRecDepth 100000
set_option maxHeartbeats 3999999
namespace L5
open PySem PySem.Spec PyProof.Rows L2 L3 L4
section
variable {X : Cx}
theorem ps_nox {st : Stmt} {t : TS} (h : PS X.nox st t) : PS X st t := fun pins s σ H D I hw => wpAny_mono (h pins s σ H D (I.wish fun _ _ => False) hw) (fun _ _ q => SP.unwish q) fun _ _ z => z.elim
theorem noxS4 {st : Stmt} {f : SF} (h : PS4 X.nox st f) : PS4 X st (sNox f) := impS (ps_nox h) fun B σ H hq => by
  obtain ⟨H₀, S, w, ρ, G, E, hl, sT, ht, ok⟩ := hq
  refine ⟨H₀, S, w, ρ, G, { E with ex := fun _ => False }, hl, sT, ?_, ⟨ok.nx, ok.rt, ok.bk, ok.ct, fun _ _ _ q => q.elim⟩⟩
  unfold wS sNox at ht
  unfold wS
  cases hf : f ρ with
  | nx ρ1 => rw [hf] at ht; exact ht
  | rt d => rw [hf] at ht; exact ht
  | no => rw [hf] at ht; exact ht
  | ex c => rw [hf] at ht; exact ht.elim
end
end L5
end
section
set_option Elab.async false
set_option linter.all false
set_option maxRecDepth 100000
set_option maxHeartbeats 3999999
namespace L5
open PySem PySem.Spec PyProof.Rows L2 L3 L4
end L5
end
section
set_option Elab.async false
set_option linter.all false
set_option maxRecDepth 100000
set_option maxHeartbeats 3999999
namespace L6
open PySem PySem.Spec PyProof.Rows
noncomputable def Up (l : List Nat) : Prop := l.Pairwise (· < ·)
structure TOk (led : Bool) (t : SetTable) (n : Nat) : Prop where
  fit : t.fits n = true
  led : t.led = led
  no : t.dummies = #[]
  up : Up t.place.toList
end L6
end
section
set_option Elab.async false
set_option linter.all false
set_option maxRecDepth 100000
set_option maxHeartbeats 3999999
namespace L6
open PySem PySem.Spec PyProof.Rows
section
variable {prog : Program} {w : World} {A : Around} {E : Value → Shared → Prop} {s : Shared}
theorem stored {a : Addr} {o : Obj} {es es' : Array (Int × Value)} {ep : Nat} {t t' : SetTable} (ho : s.heap.get? a = some o) (hd : o.data = .set es ep t) :
    (s.heap.update a (Obj.putSet es' t')).get? a = some { o with data := .set es' (ep + 1) t' } := by
  have q := Heap.get?_update_self (Obj.putSet es' t') ho (by rw [putSet_of es' t' hd]; rfl)
  rwa [putSet_of es' t' hd] at q
end
end L6
end
section
set_option Elab.async false
set_option linter.all false
set_option maxRecDepth 100000
set_option maxHeartbeats 3999999
namespace L6
open PySem PySem.Spec PyProof.Rows
section
variable {prog : Program} {w : World} {A : Around} {E : Value → Shared → Prop} {s : Shared}
end
end L6
end
section
set_option Elab.async false
set_option linter.all false
set_option maxRecDepth 100000
set_option maxHeartbeats 3999999
namespace L6
open PySem PySem.Spec PyProof.Rows
namespace Si
end Si
section
variable {prog : Program} {w : World} {A : Around} {E : Value → Shared → Prop} {s : Shared}
end
end L6
end
section
set_option Elab.async false
set_option linter.all false
set_option maxRecDepth 100000
set_option maxHeartbeats 3999999
namespace L6
open PySem PySem.Spec PyProof.Rows
section
variable {prog : Program} {w : World} {A : Around} {E : Value → Shared → Prop} {s : Shared}
end
end L6
end
section
set_option Elab.async false
set_option linter.all false
set_option maxRecDepth 100000
set_option maxHeartbeats 3999999
namespace L6
open PySem PySem.Spec PyProof.Rows
section
variable {prog : Program} {w : World} {A : Around} {E : Value → Shared → Prop} {s : Shared}
end
end L6
end
section
set_option Elab.async false
set_option linter.all false
set_option maxRecDepth 100000
set_option maxHeartbeats 3999999
namespace L6
open PySem PySem.Spec PyProof.Rows
section
variable {prog : Program} {w : World} {A : Around} {E : Value → Shared → Prop} {s : Shared}
end
end L6
end
section
set_option Elab.async false
set_option linter.all false
set_option maxRecDepth 100000
set_option maxHeartbeats 3999999
namespace L6
open PySem PySem.Spec PyProof.Rows L2 L3 L4
section
variable {X : Cx}
end
end L6
end
section
set_option Elab.async false
set_option linter.all false
set_option maxRecDepth 100000
set_option maxHeartbeats 3999999
namespace L6
open PySem PySem.Spec PyProof.Rows L2 L3 L4
section
variable {X : Cx}
end
end L6
end
section
set_option Elab.async false
set_option linter.all false
set_option maxRecDepth 100000
set_option maxHeartbeats 3999999
namespace L6
open PySem PySem.Spec PyProof.Rows L2 L3 L4
section
variable {prog : Program} {w : World} {A : Around} {E : Value → Shared → Prop} {s : Shared}
end
section
variable {X : Cx}
end
end L6
end
section
set_option Elab.async false
set_option linter.all false
set_option maxRecDepth 100000
set_option maxHeartbeats 3999999
namespace L6
open PySem PySem.Spec PyProof.Rows L2 L3 L4
theorem collect_tup {prog : Program} {w : World} {A : Around} {E : Value → Shared → Prop} {s : Shared} {t : Addr} {its : List Value} {Q : List Value → Shared → Prop} (ht : IsTup s.heap t its.toArray) (hz : its.length ≤ sizeLine)
    (h : ∀ h', s.heap.objs.size ≤ h'.objs.size → (∀ b u, s.heap.get? b = some u → h'.get? b = some u) → Q its { s with heap := h' }) : wpAny (model prog w) A (collect (.ref t)) Q E s := by
  obtain ⟨ot, hot, hct, nt, hdt⟩ := id ht
  unfold collect
  apply wpAny_bind
  apply wpAny_runValue
  refine codeAny_builtin F.entry_proto_collect ?_
  rw [Around.under_plainId F.plain_proto_collect]
  wp_walk
  refine ⟨plainId_quiet F.plain_list_iadd _, codeAny_builtin F.entry_list_iadd ?_⟩
  rw [Around.under_plainId F.plain_list_iadd]
  have g0 : (s.heap.push { cls := .type "list", data := .seq #[] }).get? s.heap.objs.size = some { cls := .type "list", data := .seq #[] 0 } := Heap.get?_push_size _ rfl
  refine wpAny_extend_seq (R := wants _ _) (s := { s with heap := s.heap.push { cls := .type "list", data := .seq #[] } }) s.heap.objs.size t _ 0 (.inr rfl) g0 (Heap.get?_push_of_some _ hot) hct hdt ?_ (by simpa using hz)
  have g1 := Heap.get?_update_self (Obj.mapSeq (· ++ its.toArray)) g0 rfl
  apply wpAny_bind
  apply wpAny_load g1
  have fin := h ((s.heap.push { cls := .type "list", data := .seq #[] }).update s.heap.objs.size (Obj.mapSeq (· ++ its.toArray))) (Nat.le_of_lt (Heap.lt_size g1)) fun b u e => (Heap.get?_update_other _ _ (Nat.ne_of_gt (Heap.lt_size e))).trans (Heap.get?_push_of_some _ e)
  refine wpAny_pure ?_
  simpa using fin
theorem sorted_tup {prog : Program} {w : World} {A : Around} {E : Value → Shared → Prop} {s : Shared} {t : Addr} {its : List Value} {ns : List Int} {Q : Value → Shared → Prop} (ht : IsTup s.heap t its.toArray) (hv : IntsAre its ns) (h64 : ns.length < 64)
    (h : ∀ h' tk l out ns' e, (∀ b u, s.heap.get? b = some u → h'.get? b = some u) → s.heap.objs.size ≤ l → IntsAre out ns' → ns'.Perm ns → ns'.Pairwise (· ≤ ·) → h'.get? l = some (seqObj "list" out.toArray e) → Q (.ref l) { s with heap := h', toks := tk }) :
    wpAny (model prog w) A (call (.builtin "sorted") [.ref t]) Q E s := by
  have lv : its.length < 64 := by rw [IntsAre.length hv]; exact h64
  apply Calls.call_function_entry kind_sorted plain_sorted entry_sorted (args_sorted1 _)
  unfold Builtin.«sorted»
  refine wpAny_bind (m := checkCount "sorted" 1 1 _) (wpAny_pure (wpAny_bind (collect_tup (A := A.in1) ht (by rw [sizeLine_eq]; omega) fun h1 l1 keep => ?_)))
  apply wpAny_bind; refine wpAny_newList ?_ (by rw [sizeLine_eq]; omega)
  have g1 : (h1.push (seqObj "list" its.toArray 0)).get? h1.objs.size = some (seqObj "list" its.toArray 0) := Heap.get?_push_size _ rfl
  refine wpAny_bind (wpAny_holding (wpAny_call_entry slot_list_sort ⟨_, g1, rfl⟩ entry_list_sort (list_sort_tree g1 hv lv fun out ns' a1 a2 a3 => ⟨_, rfl, ?_⟩) (args_list_sort _)))
  obtain ⟨e, g2⟩ := sortedHeap_at (out := out) g1
  refine wpAny_pure ⟨_, rfl, h _ s.toks _ out.toList ns' e (fun b u q => ?_) l1 a1 a2 a3 (by simpa using g2)⟩
  have lb := Heap.lt_size (keep b u q)
  rw [sortedHeap_old (Nat.ne_of_lt lb) (by rw [Heap.size_push]; exact Nat.lt_succ_of_lt lb)]
  exact Heap.get?_push_of_some _ (keep b u q)
section
variable {X : Cx}
noncomputable def rSortP (K : PySem.W.Frag) : List V → Hp → VK → Prop := fun xs H Q => ∃ (a : Addr) (ns : List Int), xs = [.ref a] ∧ SqT K H a (ns.map V.int) ∧ ns.length < 64 ∧ ∀ ns' : List Int, ns'.Perm ns → ns'.Pairwise (· ≤ ·) → ∀ p, H p = none → Q (.ref p) (upd H p (.lst (ns'.map V.int)))
theorem call_sortP : CallR X (.builtin "sorted") (rSortP X.K) := by
  intro pins s σ H xs us Q I r h
  obtain ⟨a, ns, rfl, ha, h64, q⟩ := h
  obtain ⟨u, rfl, ru⟩ := vals1 r
  cases ru
  obtain ⟨its, rv, pl, hz⟩ := I.tuple ha
  refine sorted_tup pl (intsAre_of rv) h64 fun h' tk l out ns' e keep hl a1 a2 a3 g => ?_
  have hz2 : ns'.length ≤ sizeLine := by rw [a2.length_eq, sizeLine_eq]; omega
  have I1 := I.laid (t' := tk) (a := l) (o := .lst (ns'.map V.int)) keep hl ⟨by rw [List.length_map]; exact hz2, out, e, vals_ints a1, by simpa [seqObj] using g⟩
  exact ⟨.ref l, _, I1, rfl, q ns' a2 a3 l (I.hok.fresh hl)⟩
theorem sortedP4 {p pos : Pos} {e : Expr} {t : AF} (hm : X.mg "sorted" = none) (ha : PA4 X [e] t) (hg : Gl X "sorted" := by rfl) (he : starEach [e] X.env = (false, eval e X.env) :: starEach [] X.env := by rfl) :
    PF4 X (.Call (.Name "sorted" p) [e] [] pos) (eCB sortedPM t) :=
  imp (pe_callB call_sortP hg hm PyProof.Rows.boot_sorted ha (by decide) (by decide) he (by rfl)) fun σ H Q hq98 => by
    obtain ⟨S, ρ, Q3, fc, sl, ⟨d, ed, q3⟩, k⟩ := hq98
    obtain ⟨ds, eds, ed⟩ := bnd ed
    refine ⟨S, ρ, fun es => es = ds, fc, sl, ⟨_, eds, rfl⟩, fun vs H1 es s1 d1 q1 => ?_⟩
    subst q1
    unfold sortedPM at ed
    split at ed
    · rename_i a
      obtain ⟨ns, e1, ed⟩ := bnd ed
      by_cases hl : ns.length < 64
      · rw [if_pos hl] at ed
        cases ed
        rw [ints_of e1] at d1
        obtain ⟨v, r, rfl, h1, h2⟩ := d1.uncons
        simp only [Dns] at h2
        subst h2
        simp only [Dn] at h1
        obtain ⟨t1, xs, rfl, ht, dt⟩ := h1
        rw [Dns.ints.mp dt] at ht
        refine ⟨t1, ns, rfl, SqT.of ht, hl, fun ns' pm so l hl2 => ?_⟩
        have e3 : ns' = sortI ns := sorted_one (pm.trans (sortI_perm3 _).symm) so (sortI_sorted3 _)
        subst e3
        exact k l _ _ _ (s1.free hl2) upd_same (s1.trans (same_upd hl2)) (Dns.ints.mpr rfl) q3
      · rw [if_neg hl] at ed; cases ed
    · cases ed
end
end L6
end
section
set_option Elab.async false
set_option linter.all false
set_option maxRecDepth 100000
set_option maxHeartbeats 3999999
namespace L7
open PySem PySem.Spec PyProof.Rows L2 L3 L4 LL
noncomputable def kI (ns : List Int) : List Key := ns.map Sum.inl
theorem kI_kV (ns : List Int) : (kI ns).map kV = ns.map V.int := by
  unfold kI
  rw [List.map_map]
  rfl
theorem kI_inj : ∀ {a b : List Int}, kI a = kI b → a = b
  | [], [], _ => rfl
  | [], _ :: _, h => by cases h
  | _ :: _, [], h => by cases h
  | x :: a, y :: b, h => by
    unfold kI at h
    rw [List.map_cons, List.map_cons] at h
    injection h with h1 h2
    injection h1 with h1
    rw [h1, kI_inj h2]
noncomputable def most : Nat → Nat
  | 0 => 1
  | m + 1 => 1 + (m + 1) * most m
section
variable (rd : List Int → List (List Int))
noncomputable def Memo (n : Nat) (kvs : List (List Key × V)) : Prop := ∀ k v, valV kvs k = some v → ∃ ns : List Int, k = kI ns ∧ v = .int (Wf rd (n - ns.length) ns)
theorem Memo.put {rd : List Int → List (List Int)} {n : Nat} {kvs : List (List Key × V)} (h : Memo rd n kvs) (a : List Int) : Memo rd n (putK kvs (kI a) (.int (Wf rd (n - a.length) a))) := fun k v e => by
  rw [valV_put] at e
  split at e
  · rename_i z
    cases e
    exact ⟨a, z, rfl⟩
  · exact h k v e
theorem Memo.at {rd : List Int → List (List Int)} {n : Nat} {kvs : List (List Key × V)} (h : Memo rd n kvs) {a : List Int} {v : V} (e : valV kvs (kI a) = some v) : v = .int (Wf rd (n - a.length) a) := by
  obtain ⟨ns, e1, e2⟩ := h _ _ e
  rw [kI_inj e1]
  exact e2
noncomputable def But (p : Addr) (H H' : Hp) : Prop := ∀ b o, b ≠ p → H b = some o → H' b = some o
theorem But.trans {p : Addr} {H H1 H2 : Hp} (a : But p H H1) (b : But p H1 H2) : But p H H2 := fun c o n h => b c o n (a c o n h)
theorem But.of_same {p : Addr} {H H1 : Hp} (a : Same H H1) : But p H H1 := fun c o _ h => a c o h
theorem But.upd {p : Addr} {H : Hp} {o : HO} : But p H (upd H p o) := fun c q n h => by rw [upd_ne n]; exact h
theorem tup_but {K : PySem.W.Frag} {S : Addr → Prop} {H H' : Hp} {p : Addr} {xs : List Int} {v : V} {kvs : List (List Key × V)} (hp : H p = some (.dT kvs)) (b : But p H H') (h : Dn K S H (tupI xs) v) : Dn K S H' (tupI xs) v := by
  unfold tupI at h ⊢
  simp only [Dn] at h ⊢
  obtain ⟨a, ys, rfl, ha, da⟩ := h
  have ne : a ≠ p := fun z => by rw [z, hp] at ha; cases ha
  refine ⟨a, ys, rfl, b _ _ ne ha, ?_⟩
  rw [Dns.ints] at da ⊢
  exact da
theorem dns_tup {K : PySem.W.Frag} {S : Addr → Prop} {H H' : Hp} {p : Addr} {kvs : List (List Key × V)} (hp : H p = some (.dT kvs)) (b : But p H H') : ∀ {x : List (List Int)} {vs : List V}, Dns K S H (x.map tupI) vs → Dns K S H' (x.map tupI) vs
  | [], vs, h => by simpa only [List.map_nil, Dns] using h
  | r :: x, vs, h => by
    simp only [List.map_cons, Dns] at h ⊢
    obtain ⟨v, q, e, h1, h2⟩ := h
    exact ⟨v, q, e, tup_but hp b h1, dns_tup hp b h2⟩
theorem ord_but {K : PySem.W.Frag} {S : Addr → Prop} {H H' : Hp} {p : Addr} {x : List (List Int)} {v : V} {kvs : List (List Key × V)} (hp : H p = some (.dT kvs)) (b : But p H H') (h : Dn K S H (ordD x) v) : Dn K S H' (ordD x) v := by
  unfold ordD at h ⊢
  simp only [Dn] at h ⊢
  obtain ⟨a, ys, rfl, ha, da⟩ := h
  have ne : a ≠ p := fun z => by rw [z, hp] at ha; cases ha
  exact ⟨a, ys, rfl, b _ _ ne ha, dns_tup hp b da⟩
noncomputable abbrev All : Addr → Prop := fun _ => True
noncomputable def spW (K : PySem.W.Frag) (x : List (List Int)) (Ok : List Int → Prop) (m : Nat) : Sp := fun vs H Q _ => ∃ (vo va : V) (p : Addr) (a : List Int) (kvs : List (List Key × V)), vs = [vo, va, .ref p] ∧ Dn K All H (ordD x) vo ∧ Dn K All H (tupI a) va ∧
  H p = some (.dT kvs) ∧ Memo rd x.length kvs ∧ Ok a ∧ a.length + m = x.length ∧ kvs.length + most m ≤ 10000000 ∧
  ∀ H' kvs', But p H H' → H' p = some (.dT kvs') → Memo rd x.length kvs' → kvs'.length ≤ kvs.length + most m → valV kvs' (kI a) = some (.int (Wf rd m a)) → Q (.int (Wf rd m a)) H'
end
noncomputable def At (K : PySem.W.Frag) (x : List (List Int)) (a : List Int) (p : Addr) (σ : L2.St) (H : Hp) : Prop :=
  ∃ vo va, σ[0]? = some (some vo) ∧ Dn K All H (ordD x) vo ∧ σ[1]? = some (some va) ∧ Dn K All H (tupI a) va ∧ σ[2]? = some (some (.ref p))
theorem At.but {K : PySem.W.Frag} {x : List (List Int)} {a : List Int} {p : Addr} {σ : L2.St} {H H' : Hp} {kvs : List (List Key × V)} (h : At K x a p σ H) (hp : H p = some (.dT kvs)) (b : But p H H') : At K x a p σ H' := by
  obtain ⟨vo, va, h1, h2, h3, h4, h5⟩ := h
  exact ⟨vo, va, h1, ord_but hp b h2, h3, tup_but hp b h4, h5⟩
theorem At.key {K : PySem.W.Frag} {x : List (List Int)} {a : List Int} {p : Addr} {σ : L2.St} {H : Hp} (h : At K x a p σ H) : ∃ b, σ[1]? = some (some (.ref b)) ∧ H b = some (.tup ((kI a).map kV)) := by
  obtain ⟨vo, va, h1, h2, h3, h4, h5⟩ := h
  unfold tupI at h4
  simp only [Dn] at h4
  obtain ⟨b, ys, rfl, hb, db⟩ := h4
  rw [Dns.ints.mp db] at hb
  exact ⟨b, h3, by rw [kI_kV]; exact hb⟩
theorem At.slot {K : PySem.W.Frag} {x : List (List Int)} {a : List Int} {p : Addr} {σ : L2.St} {H : Hp} (h : At K x a p σ H) : σ[2]? = some (some (.ref p)) := by
  obtain ⟨vo, va, h1, h2, h3, h4, h5⟩ := h
  exact h5
theorem turns {K : PySem.W.Frag} {rd : List Int → List (List Int)} {x : List (List Int)} {Ok : List Int → Prop} {m : Nat} {a : List Int} {p l : Addr} {σ : L2.St} {H : Hp} {kvs : List (List Key × V)} {E : XK} {Q : VK} {ps : List Addr}
    (hσ : At K x a p σ H) (h3 : σ[3]? = some (some (.ref l))) (hl : H l = some (.lst (ps.map V.ref))) (hq : ps.length = (rd a).length) (ht : ∀ (i : Nat) (q : Addr) (b : List Int), ps[i]? = some q → (rd a)[i]? = some b → H q = some (.tup (b.map V.int)))
    (hp : H p = some (.dT kvs)) (hM : Memo rd x.length kvs) (hOk : ∀ b ∈ rd a, Ok b ∧ b.length + m = x.length) (hc : (rd a).length ≤ m + 1) (hm : kvs.length + (m + 1) * most m ≤ 10000000)
    (k : ∀ acc H' kvs', But p H H' → H' acc = some (.lst (((rd a).map (Wf rd m)).map V.int)) → H' p = some (.dT kvs') → Memo rd x.length kvs' → kvs'.length ≤ kvs.length + (m + 1) * most m → Q (.ref acc) H') :
    tComp 1 [0, 2] (iList K (tVar 3)) (gName 0) (fun _ H Q => Q true H) (tCall (spW rd K x Ok m) [] E (tCons (tVar 1) (tCons (tVar 0) (tCons (tVar 2) tNil)))) σ H Q := by
  obtain ⟨vo, va, s0, d0, s1, d1, s2⟩ := hσ
  have lp : l ≠ p := fun z => by rw [z, hp] at hl; cases hl
  refine ⟨_, h3, l, rfl, ⟨_, SqL.of hl⟩, fun acc ha => ?_⟩
  have al : l ≠ acc := fun z => by rw [z, ha] at hl; cases hl
  have ap : p ≠ acc := fun z => by rw [z, ha] at hp; cases hp
  refine ⟨fun i mm H1 ys => i + mm = (rd a).length ∧ ys = ((rd a).take i).map (fun b => V.int (Wf rd m b)) ∧ H1 acc = some (.lst ys) ∧ But p H H1 ∧ ∃ kvs1, H1 p = some (.dT kvs1) ∧ Memo rd x.length kvs1 ∧ kvs1.length ≤ kvs.length + i * most m, ⟨(rd a).length, by omega, rfl, upd_same, fun b o n h => by rw [upd_ne (fun z => by rw [z, ha] at h; cases h)]; exact h, kvs, by rw [upd_ne ap]; exact hp, hM, by omega⟩, ?_⟩
  rintro i mm H1 ys ⟨e1, e2, e3, e4, kvs1, e5, e6, e7⟩
  refine ⟨e3, ?_⟩
  have hl1 := e4 _ _ lp hl
  by_cases hi : i < (rd a).length
  · refine .inr ⟨⟨_, .ref (ps[i]'(by omega)), SqL.of hl1, by simp [hq, hi]⟩, fun v H2 hy => ?_⟩
    obtain ⟨rfl, hy⟩ := hy
    have hv := hy _ (SqL.of hl1)
    rw [List.getElem?_map, List.getElem?_eq_getElem (by omega)] at hv
    cases hv
    have hb := List.getElem_mem hi
    obtain ⟨ob, lb⟩ := hOk _ hb
    have tb := ht i ps[i] (rd a)[i] (List.getElem?_eq_getElem (by omega)) (List.getElem?_eq_getElem hi)
    have tp : ps[i] ≠ p := fun z => by rw [z, hp] at tb; cases tb
    have dq : Dn K All H (tupI (rd a)[i]) (.ref ps[i]) := by
      unfold tupI
      simp only [Dn]
      exact ⟨_, _, rfl, tb, Dns.ints.mpr rfl⟩
    refine ⟨by show [(σ[0]?).join, (σ[2]?).join] = _; rfl, ?_⟩
    show (if true = true then _ else _)
    rw [if_pos rfl]
    refine ⟨vo, by show some ((σ[0]?).join) = _; rw [s0]; rfl, .ref ps[i], rfl, .ref p, by show some ((σ[2]?).join) = _; rw [s2]; rfl, ?_⟩
    refine ⟨vo, .ref ps[i], p, (rd a)[i], kvs1, rfl, ord_but hp e4 d0, tup_but hp e4 dq, e5, e6, ob, lb, ?_, fun H' kvs' b1 b2 b3 b4 b5 => ?_⟩
    · have := Nat.mul_le_mul_right (most m) (show i + 1 ≤ m + 1 by omega)
      rw [Nat.succ_mul] at this
      omega
    · have ys_len : ys.length < sizeLine := by
        rw [e2, List.length_map, List.length_take]
        have : m ≤ 10000000 := by
          have m1 : 1 ≤ most m := by cases m <;> simp [most]
          have := Nat.mul_le_mul_left (m + 1) m1
          omega
        have z : sizeLine = 16777216 := rfl
        omega
      refine ⟨b1 _ _ ap.symm e3, ys_len, mm - 1, by omega, by omega, ?_, upd_same, ?_, kvs', ?_, b3, ?_⟩
      · rw [e2, List.take_add_one, List.getElem?_eq_getElem hi, List.map_append]
        rfl
      · intro c o n h
        rw [upd_ne (fun z => by rw [z, ha] at h; cases h)]
        exact b1 _ _ n (e4 _ _ n h)
      · rw [upd_ne ap]
        exact b2
      · rw [Nat.succ_mul]
        omega
  · refine .inl ⟨⟨_, SqL.of hl1, by rw [List.length_map]; omega⟩, k acc H1 kvs1 e4 ?_ e5 e6 ?_⟩
    · rw [e3, e2, List.take_of_length_le (by omega), List.map_map]
      rfl
    · have := Nat.mul_le_mul_right (most m) (show i ≤ m + 1 by omega)
      omega
end L7
end
section
set_option Elab.async false
set_option linter.all false
set_option maxRecDepth 100000
set_option maxHeartbeats 3999999
namespace L7
open PySem PySem.Spec PyProof.Rows L2 L3 L4 LL
section
variable {K : PySem.W.Frag} {rd : List Int → List (List Int)} {x : List (List Int)} {Ok : List Int → Prop} {a : List Int} {p : Addr} {σ : L2.St} {H : Hp} {kvs : List (List Key × V)}
theorem get_fin {D : Ends} {v : V} (h : At K x a p σ H) (hp : H p = some (.dT kvs)) (hv : valV kvs (kI a) = some v) (k : D.rt v H) : tRet (tDGet (tVar 2) (tVar 1)) D σ H := by
  obtain ⟨b, e1, e2⟩ := h.key
  exact ⟨_, h.slot, _, e1, p, v, rfl, by rw [← hv]; exact DGet.t hp e2, k⟩
theorem not_in {Q : Bool → Hp → Prop} (h : At K x a p σ H) (hp : H p = some (.dT kvs)) (k : Q (!(valV kvs (kI a)).isSome) H) : tB (tDNotIn (tVar 1) (tVar 2)) σ H Q := by
  obtain ⟨b, e1, e2⟩ := h.key
  exact ⟨_, e1, _, h.slot, p, _, rfl, DGet.t hp e2, _, rfl, k⟩
theorem put_at {D : Ends} {v : V} (h : At K x a p σ H) (hp : H p = some (.dT kvs)) (hl : kvs.length < sizeLine) (k : D.nx σ (upd H p (.dT (putK kvs (kI a) v)))) :
    tVar 2 σ H fun x H2 => tVar 1 σ H2 fun y H3 => ∃ b H4, x = .ref b ∧ DPut H3 b y v H4 ∧ D.nx σ H4 := by
  obtain ⟨b, e1, e2⟩ := h.key
  exact ⟨_, h.slot, _, e1, p, _, rfl, DPut.t hp e2 hl, k⟩
noncomputable def tWays (C1 : TT) (T1 : TE) (T3 : TS) (T4 : TE) : TS :=
  tSeq (tIfS C1 (sDPut (tVar 2) (tVar 1) T1) tNext) (tSeq (tIfS (tB (tDNotIn (tVar 1) (tVar 2))) (tSeq T3 (sDPut (tVar 2) (tVar 1) T4)) tNext) (tRet (tDGet (tVar 2) (tVar 1))))
noncomputable abbrev tSumW (K : PySem.W.Frag) (sp : Sp) (E : XK) : TE := tCB rSum (tCons (tComp 1 [0, 2] (iList K (tVar 3)) (gName 0) (fun _ H Q => Q true H) (tCall sp [] E (tCons (tVar 1) (tCons (tVar 0) (tCons (tVar 2) tNil))))) tNil)
theorem sum_run {sp : Sp} {E : XK} {Q : VK} (k : tComp 1 [0, 2] (iList K (tVar 3)) (gName 0) (fun _ H Q => Q true H) (tCall sp [] E (tCons (tVar 1) (tCons (tVar 0) (tCons (tVar 2) tNil)))) σ H fun u H1 => rSum [u] H1 Q) : tSumW K sp E σ H Q := k
theorem put_run {D : Ends} {tv : TE} (k : tv σ H fun v H1 => tVar 2 σ H1 fun x H2 => tVar 1 σ H2 fun y H3 => ∃ b H4, x = .ref b ∧ DPut H3 b y v H4 ∧ D.nx σ H4) : sDPut (tVar 2) (tVar 1) tv D σ H := k
structure Parts (K : PySem.W.Frag) (rd : List Int → List (List Int)) (x : List (List Int)) (a : List Int) (C1 : TT) (T1 : TE) (T3 : TS) : Prop where
  c1 : ∀ p σ H Q, At K x a p σ H → (∀ H', Same H H' → Q (decide (a.length = x.length)) H') → C1 σ H Q
  t1 : ∀ σ H (Q : VK), (∀ H', Same H H' → Q (.int 1) H') → T1 σ H Q
  t3 : ∀ p (D : Ends) σ H, σ.length = 4 → At K x a p σ H → a.length < x.length → (∀ (σ' : L2.St) (H' : Hp) (l : Addr) (ps : List Addr), Same H H' → At K x a p σ' H' → σ'[3]? = some (some (.ref l)) → H' l = some (.lst (ps.map V.ref)) → ps.length = (rd a).length →
    (∀ (i : Nat) (q : Addr) (b : List Int), ps[i]? = some q → (rd a)[i]? = some b → H' q = some (.tup (b.map V.int))) → D.nx σ' H') → T3 D σ H
theorem At.same {H' : Hp} (h : At K x a p σ H) (hp : H p = some (.dT kvs)) (s : Same H H') : At K x a p σ H' := h.but hp (.of_same s)
theorem ways_0 {C1 : TT} {T1 T4 : TE} {T3 : TS} {D : Ends} (G : Parts K rd x a C1 T1 T3) (h : At K x a p σ H) (hp : H p = some (.dT kvs)) (hM : Memo rd x.length kvs) (hl : a.length = x.length) (hc : kvs.length + 1 ≤ 10000000)
    (k : ∀ H' kvs', But p H H' → H' p = some (.dT kvs') → Memo rd x.length kvs' → kvs'.length ≤ kvs.length + 1 → valV kvs' (kI a) = some (.int 1) → D.rt (.int 1) H') : tWays C1 T1 T3 T4 D σ H := by
  refine G.c1 p σ H _ h fun H1 s1 => ?_
  rw [decide_eq_true hl, if_pos rfl]
  refine G.t1 _ _ _ fun H2 s2 => ?_
  have s := s1.trans s2
  have h2 := h.same hp s
  have hp2 := s _ _ hp
  have w1 : Wf rd (x.length - a.length) a = 1 := by rw [hl, Nat.sub_self]; rfl
  have hM2 : Memo rd x.length (putK kvs (kI a) (.int 1)) := by rw [← w1]; exact hM.put a
  have hv : valV (putK kvs (kI a) (.int 1)) (kI a) = some (.int 1) := by rw [valV_put, if_pos rfl]
  have h3 := h2.but hp2 (But.upd (o := .dT (putK kvs (kI a) (.int 1))))
  refine put_at h2 hp2 (by show _ < 16777216; omega) (not_in h3 upd_same ?_)
  rw [hv]
  show (if (false : Bool) = true then _ else _)
  rw [if_neg (by decide)]
  exact get_fin h3 upd_same hv (k _ _ ((But.of_same s).trans .upd) upd_same hM2 (length_putK _ _ _) hv)
theorem ways_m {C1 : TT} {T1 : TE} {T3 : TS} {D : Ends} {E : XK} {m : Nat} (G : Parts K rd x a C1 T1 T3) (h4 : σ.length = 4) (h : At K x a p σ H) (hp : H p = some (.dT kvs)) (hM : Memo rd x.length kvs) (hl : a.length + (m + 1) = x.length) (hc : kvs.length + most (m + 1) ≤ 10000000)
    (hOk : ∀ b ∈ rd a, Ok b ∧ b.length + m = x.length) (hr : (rd a).length ≤ m + 1)
    (k : ∀ H' kvs', But p H H' → H' p = some (.dT kvs') → Memo rd x.length kvs' → kvs'.length ≤ kvs.length + most (m + 1) → valV kvs' (kI a) = some (.int (Wf rd (m + 1) a)) → D.rt (.int (Wf rd (m + 1) a)) H') :
    tWays C1 T1 T3 (tSumW K (spW rd K x Ok m) E) D σ H := by
  have wn : x.length - a.length = m + 1 := by omega
  refine G.c1 p σ H _ h fun H1 s1 => ?_
  rw [decide_eq_false (by omega), if_neg (by decide)]
  have h1 := h.same hp s1
  have hp1 := s1 _ _ hp
  have mm : most (m + 1) = 1 + (m + 1) * most m := rfl
  refine not_in h1 hp1 ?_
  cases hv : valV kvs (kI a) with
  | some v =>
    show (if (false : Bool) = true then _ else _)
    rw [if_neg (by decide)]
    have ev := hM.at hv
    rw [wn] at ev
    subst ev
    exact get_fin h1 hp1 hv (k _ _ (.of_same s1) hp1 hM (by omega) hv)
  | none =>
    show (if (true : Bool) = true then _ else _)
    rw [if_pos rfl]
    refine G.t3 p _ σ H1 h4 h1 (by omega) fun σ' H2 l ps s2 hA h3 hL hq ht => ?_
    have hp2 := s2 _ _ hp1
    refine put_run (sum_run ?_)
    refine turns hA h3 hL hq ht hp2 hM hOk hr (by omega) fun acc H3 kvs3 b3 ea ep eM el => ?_
    refine ⟨acc, _, rfl, ea, ?_⟩
    have hA3 := hA.but hp2 b3
    have es : ((rd a).map (Wf rd m)).sum = Wf rd (m + 1) a := rfl
    rw [es]
    have hM4 : Memo rd x.length (putK kvs3 (kI a) (.int (Wf rd (m + 1) a))) := by rw [← wn]; exact eM.put a
    have hv4 : valV (putK kvs3 (kI a) (.int (Wf rd (m + 1) a))) (kI a) = some (.int (Wf rd (m + 1) a)) := by rw [valV_put, if_pos rfl]
    have hl4 := length_putK kvs3 (kI a) (.int (Wf rd (m + 1) a))
    have hA4 := hA3.but ep (But.upd (o := .dT (putK kvs3 (kI a) (.int (Wf rd (m + 1) a)))))
    refine put_at hA3 ep (by show _ < 16777216; omega) ?_
    exact get_fin hA4 upd_same hv4 (k _ _ (((But.of_same s1).trans (.of_same s2)).trans (b3.trans .upd)) upd_same hM4 (by omega) hv4)
end
end L7
end
section
set_option Elab.async false
set_option linter.all false
set_option maxRecDepth 100000
set_option maxHeartbeats 3999999
namespace L7
open PySem PySem.Spec PyProof.Rows L2 L3 L4 LL
section
variable {K : PySem.W.Frag} {rd : List Int → List (List Int)} {x : List (List Int)} {Ok : List Int → Prop} {a : List Int} {p : Addr} {σ : L2.St} {H : Hp} {kvs : List (List Key × V)}
noncomputable def wenv (x : List (List Int)) (a : List Int) (p : Addr) : DEnv := [some (ordD x), some (tupI a), some (.exc "" p), none]
theorem At.sl (h : At K x a p σ H) : Sl K All H (wenv x a p) σ := fun i d e => by
  obtain ⟨vo, va, h1, h2, h3, h4, h5⟩ := h
  match i, e with
  | 0, e => cases e; exact ⟨vo, h1, h2⟩
  | 1, e => cases e; exact ⟨va, h3, h4⟩
  | 2, e => cases e; exact ⟨_, h5, by simp only [Dn]⟩
  | 3, e => cases e
  | n + 4, e => simp [wenv] at e
noncomputable def wst (x : List (List Int)) (a : List Int) (p : Addr) : SEnv := [.ro (ordD x), .ro (tupI a), .ro (.exc "" p), .no]
theorem At.st (h : At K x a p σ H) : ST K H All (fun _ => 0) σ H (wst x a p) [] := by
  have no : ∀ (i : Nat) (d : D), (wst x a p)[i]? ≠ some (Sv.ow d) := fun i d e => by
    match i, e with
    | 0, e => cases e
    | 1, e => cases e
    | 2, e => cases e
    | 3, e => cases e
    | n + 4, e => simp [wst] at e
  obtain ⟨vo, va, h1, h2, h3, h4, h5⟩ := h
  refine ⟨fun _ _ => trivial, Same.refl H, fun i d e => absurd e (no i d), fun i j d e h => absurd h (no i d), fun i d e => ?_, fun g hg => by cases hg⟩
  have m : ∀ b, All b → SO All (fun _ => 0) (wst x a p) b := fun b _ => ⟨trivial, fun i d e => absurd e (no i d)⟩
  match i, e with
  | 0, e => cases e; exact ⟨vo, h1, Dn.fits (.mono m) _ _ h2⟩
  | 1, e => cases e; exact ⟨va, h3, Dn.fits (.mono m) _ _ h4⟩
  | 2, e => cases e; exact ⟨_, h5, by simp only [Dn]⟩
  | 3, e => cases e
  | n + 4, e => simp [wst] at e
theorem parts {xc : Str → Hp → Prop} {f1 : TF} {g3 : EF} (h1 : ∀ p, f1 (wenv x a p) = some (decide (a.length = x.length))) (h3 : ∀ p, a.length < x.length → g3 (wenv x a p) = some (.lst ((rd a).map tupI))) :
    Parts K rd x a (liftT K (wT f1)) (lift K (wE (eC (.int 1)))) (liftS K xc 4 (wS (sSet 3 g3))) := by
  refine ⟨fun p σ H Q h k => ⟨All, wenv x a p, fun b => b = decide (a.length = x.length), fun _ _ => trivial, h.sl, ⟨_, h1 p, rfl⟩, fun b H' s e => by rw [e]; exact k H' s⟩, fun σ H Q k => ⟨All, [], fun d => d = .int 1, fun _ _ => trivial, fun i d e => by simp at e, ⟨_, rfl, rfl⟩, fun v H' d s dn e => ?_⟩, fun p D σ H h4 h hl k => ?_⟩
  · subst e
    simp only [Dn] at dn
    subst dn
    exact k H' s
  · refine ⟨H, All, fun _ => 0, wst x a p, [], { nx := fun ρ' => ρ' = (wst x a p).set 3 (.ro (.lst ((rd a).map tupI))), rt := fun _ => False, bk := fun _ => False, ct := fun _ => False, ex := fun _ => False }, h4, h.st, ?_, ⟨fun w σ' H' ρ' hl' st e => ?_, fun _ _ _ _ _ e => e.elim, fun _ _ _ _ _ _ e => e.elim, fun _ _ _ _ _ _ e => e.elim, fun _ _ _ e => e.elim⟩⟩
    · have e : sSet 3 g3 (wst x a p) = .nx ((wst x a p).set 3 (.ro (.lst ((rd a).map tupI)))) := by
        unfold sSet
        rw [show vRd (wst x a p) = wenv x a p from rfl, h3 p hl]
      unfold wS
      rw [e]
    · subst e
      have up : ∀ b, SO All w ((wst x a p).set 3 (.ro (.lst ((rd a).map tupI)))) b → All b := fun _ _ => trivial
      obtain ⟨v0, e0, d0⟩ := st.ro 0 (ordD x) rfl
      obtain ⟨v1, e1, d1⟩ := st.ro 1 (tupI a) rfl
      obtain ⟨v2, e2, d2⟩ := st.ro 2 (.exc "" p) rfl
      obtain ⟨v3, e3, d3⟩ := st.ro 3 (.lst ((rd a).map tupI)) rfl
      simp only [Dn] at d2 d3
      subst d2
      obtain ⟨l, ys, rfl, hl3, _, dys⟩ := d3
      obtain ⟨ps, rfl, pl, ph⟩ := dns_tups (ts := rd a) dys
      exact k σ' H' l ps st.sm ⟨v0, v1, e0, Dn.fits (.mono up) _ _ d0, e1, Dn.fits (.mono up) _ _ d1, e2⟩ e3 hl3 pl ph
theorem spW_len {m : Nat} {vs : List V} {Q : VK} {E : XK} (h : spW rd K x Ok m vs H Q E) : vs.length = 3 := by
  obtain ⟨vo, va, p, a, kvs, rfl, _⟩ := h
  rfl
end
theorem fn_false {P : Program} {w : World} {K : PySem.W.Frag} {mg : Str → Option Value} {base : Heap} {k : Nat} {f : Addr} {fd : FuncData} {ps : List Str} : FnOk P w K mg base CX0 k f fd ps (fun _ _ _ _ => False) :=
  ⟨fun _ _ _ _ h => h.elim, fun _ _ _ _ _ _ _ _ _ _ _ _ _ h => h.elim⟩
theorem okW {P : Program} {w : World} {K : PySem.W.Frag} {mg : Str → Option Value} {base : Heap} {nm qual : Str} {st : Stmt} {f : Addr} {fd : FuncData} {N ps : List Str} {k0 : Nat} {rd : List Int → List (List Int)} {x : List (List Int)} {Ok : List Int → Prop} {f1 : TF} {g3 : EF} (F : Fun K nm qual st f fd) (S : FnScope N ps (defScope st)) (hN : N.length = 4) (hp : ps.length = 3)
    (h1 : ∀ a p, Ok a → f1 (wenv x a p) = some (decide (a.length = x.length))) (h3 : ∀ a p, Ok a → a.length < x.length → g3 (wenv x a p) = some (.lst ((rd a).map tupI)))
    (hO : ∀ a, Ok a → a.length < x.length → (∀ b ∈ rd a, Ok b ∧ b.length = a.length + 1) ∧ (rd a).length + a.length ≤ x.length)
    (hbody : ∀ (sp : Sp) (k : Nat), k0 ≤ k → FnOk P w K mg base CX0 k f fd ps sp → ∀ (cdv : Value) (A : Around) (outer : List Env) (s : Shared) (H : Hp) (E : XK), Room k (A.deeper (envOfC qual (defScope st) s.heap.objs.size f cdv)) →
      ∃ xc, PSs (cxOf CX0 P w K mg base N qual (defScope st) f cdv A outer s H E).nox (defBody st) (tWays (liftT K (wT f1)) (lift K (wE (eC (.int 1)))) (liftS K xc 4 (wS (sSet 3 g3))) (tSumW K sp E0))) :
    ∀ m, FnOk P w K mg base CX0 (k0 + m + 1) f fd ps (spW rd K x Ok m)
  | 0 => F.ok S (fun vs H Q E h => by rw [hp]; exact spW_len h) fun cdv A outer s H vs Q E hr h => by
    obtain ⟨xc, hb⟩ := hbody _ k0 (Nat.le_refl _) fn_false cdv A outer s H E hr
    refine ⟨_, hb, ?_⟩
    obtain ⟨vo, va, p, a, kvs, rfl, d0, d1, hd, hM, ok, hl, hc, k⟩ := h
    have hs : L2.start N [vo, va, .ref p] = [some vo, some va, some (.ref p), none] := by
      unfold L2.start
      rw [hN]
      rfl
    rw [hs]
    exact ways_0 (parts (fun p => h1 a p ok) fun p => h3 a p ok) ⟨vo, va, rfl, d0, rfl, d1, rfl⟩ hd hM hl hc fun H' kvs' b e m l v => k H' kvs' b e m l v
  | m + 1 => F.ok S (fun vs H Q E h => by rw [hp]; exact spW_len h) fun cdv A outer s H vs Q E hr h => by
    obtain ⟨xc, hb⟩ := hbody _ (k0 + m + 1) (by omega) (okW F S hN hp h1 h3 hO hbody m) cdv A outer s H E hr
    refine ⟨_, hb, ?_⟩
    obtain ⟨vo, va, p, a, kvs, rfl, d0, d1, hd, hM, ok, hl, hc, k⟩ := h
    have hs : L2.start N [vo, va, .ref p] = [some vo, some va, some (.ref p), none] := by
      unfold L2.start
      rw [hN]
      rfl
    rw [hs]
    obtain ⟨o1, o2⟩ := hO a ok (by omega)
    exact ways_m (parts (fun p => h1 a p ok) fun p => h3 a p ok) rfl ⟨vo, va, rfl, d0, rfl, d1, rfl⟩ hd hM hl hc (fun b hb => ⟨(o1 b hb).1, by have := (o1 b hb).2; omega⟩) (by omega) fun H' kvs' b e m l v => k H' kvs' b e m l v
end L7
end
section
set_option Elab.async false
set_option linter.all false
set_option maxRecDepth 100000
set_option maxHeartbeats 3999999
namespace L7
open PySem PySem.Spec PyProof.Rows L2 L3 L4 LL
noncomputable def tOn (sp : Sp) : TS := tSeq (tAsg tDNewT (gName 1)) (tSeq (tDrop (tCall sp [] E0 (tCons (tVar 0) (tCons (tTup tNil) (tCons (tVar 1) tNil))))) (tRet (tVar 1)))
noncomputable def spO (rd : List Int → List (List Int)) (K : PySem.W.Frag) (x : List (List Int)) : Sp := fun vs H Q _ => ∃ vo, vs = [vo] ∧ Dn K All H (ordD x) vo ∧
  ∀ p H' kvs, H p = none → Same H H' → H' p = some (.dT kvs) → Memo rd x.length kvs → valV kvs (kI []) = some (.int (Wf rd x.length [])) → Q (.ref p) H'
theorem most_9 {n : Nat} (h : n ≤ 9) : most n ≤ 10000000 := by
  match n, h with
  | 0, _ => decide
  | 1, _ => decide
  | 2, _ => decide
  | 3, _ => decide
  | 4, _ => decide
  | 5, _ => decide
  | 6, _ => decide
  | 7, _ => decide
  | 8, _ => decide
  | 9, _ => decide
theorem okO {P : Program} {w : World} {K : PySem.W.Frag} {mg : Str → Option Value} {base : Heap} {nm qual : Str} {st : Stmt} {f : Addr} {fd : FuncData} {N ps : List Str} {k : Nat} {rd : List Int → List (List Int)} {x : List (List Int)} {Ok : List Int → Prop} (F : Fun K nm qual st f fd) (S : FnScope N ps (defScope st)) (hN : N.length = 2) (hp : ps.length = 1)
    (hn : x.length ≤ 9) (ok : Ok [])
    (hbody : ∀ (cdv : Value) (A : Around) (outer : List Env) (s : Shared) (H : Hp) (E : XK), Room k (A.deeper (envOfC qual (defScope st) s.heap.objs.size f cdv)) → PSs (cxOf CX0 P w K mg base N qual (defScope st) f cdv A outer s H E).nox (defBody st) (tOn (spW rd K x Ok x.length))) :
    FnOk P w K mg base CX0 (k + 1) f fd ps (spO rd K x) := F.ok S (fun vs H Q E ⟨vo, e, _⟩ => by rw [hp, e]; rfl) fun cdv A outer s H vs Q E hr h => by
  refine ⟨_, hbody cdv A outer s H E hr, ?_⟩
  obtain ⟨vo, rfl, d0, k⟩ := h
  have hs : L2.start N [vo] = [some vo, none] := by
    unfold L2.start
    rw [hN]
    rfl
  rw [hs]
  intro p hf
  have hp1 : upd H p (.dT []) p = some (.dT []) := upd_same
  have s1 : Same H (upd H p (.dT [])) := same_upd hf
  refine ⟨vo, rfl, by decide, fun q hq => ?_⟩
  have s2 := same_upd (o := .tup []) hq
  have qp : p ≠ q := fun z => by rw [← z, hp1] at hq; cases hq
  refine ⟨.ref p, rfl, ?_⟩
  refine ⟨vo, .ref q, p, [], [], rfl, Dn.fits (.same (s1.trans s2)) _ _ d0, ?_, s2 _ _ hp1, fun k v e => (by cases e), ok, (by simp), (by have := most_9 hn; simp; omega), fun H' kvs' b e1 e2 e3 e4 => ?_⟩
  · unfold tupI
    simp only [Dn]
    exact ⟨q, [], rfl, upd_same, by simp only [List.map_nil, Dns]⟩
  · refine ⟨.ref p, rfl, k p H' kvs' hf (fun c o h => ?_) e1 e2 e4⟩
    have cp : c ≠ p := fun z => by rw [z, hf] at h; cases h
    exact b _ _ cp (s2 _ _ (s1 _ _ h))
theorem waysR_ok {rd : List (List Int) → List Int → List (List Int)} {ds : List D} {d : D} (h : waysR rd ds = .ok d) : ∃ x, ds = [ordD x] ∧ goodX x = true ∧ d = .int (Wf (rd x) x.length []) := by
  unfold waysR at h
  split at h
  · rename_i e
    split at h
    · rename_i x he
      split at h
      · rename_i hg
        cases h
        refine ⟨x, ?_, hg, rfl⟩
        unfold ordOf at he
        split at he
        · rename_i es
          rw [tupsOf_of he]
          rfl
        · cases he
      · cases h
    · cases h
  · cases h
noncomputable def tMany (sp : Sp) : TS := tRet (tDGet (tCall sp [] E0 (tCons (tVar 0) tNil)) (tTup tNil))
theorem okM {P : Program} {w : World} {K : PySem.W.Frag} {mg : Str → Option Value} {base : Heap} {nm qual : Str} {st : Stmt} {f : Addr} {fd : FuncData} {N ps : List Str} {k : Nat} {rd : List (List Int) → List Int → List (List Int)} (F : Fun K nm qual st f fd) (S : FnScope N ps (defScope st)) (hN : N.length = 1) (hp : ps.length = 1)
    (hbody : ∀ x, goodX x = true → ∀ (cdv : Value) (A : Around) (outer : List Env) (s : Shared) (H : Hp) (E : XK), Room k (A.deeper (envOfC qual (defScope st) s.heap.objs.size f cdv)) → PSs (cxOf CX0 P w K mg base N qual (defScope st) f cdv A outer s H E).nox (defBody st) (tMany (spO (rd x) K x))) :
    FnOk P w K mg base CX0 (k + 1) f fd ps (sp4 K (waysR rd)) := by
  refine F.ok S (fun vs H Q E h => ?_) fun cdv A outer s H vs Q E hr h => ?_
  · obtain ⟨S', ds, Q3, fc, dn, ⟨d, e, _⟩, _⟩ := h
    obtain ⟨x, rfl, _⟩ := waysR_ok e
    rw [hp, ← dn.len]
    rfl
  · obtain ⟨S', ds, Q3, fc, dn, ⟨d, e, q3⟩, k⟩ := h
    obtain ⟨x, rfl, hg, rfl⟩ := waysR_ok e
    refine ⟨_, hbody x hg cdv A outer s H E hr, ?_⟩
    obtain ⟨vo, r, rfl, d0, d1⟩ := dn.uncons
    simp only [Dns] at d1
    subst d1
    have hs : L2.start N [vo] = [some vo] := by
      unfold L2.start
      rw [hN]
      rfl
    rw [hs]
    refine ⟨vo, rfl, vo, rfl, Dn.fits (.mono fun _ _ => trivial) _ _ d0, fun p H1 kvs hf s1 e1 hM hv => ?_⟩
    refine ⟨by decide, fun q hq => ?_⟩
    have s2 := same_upd (o := .tup []) hq
    refine ⟨p, _, rfl, by rw [← hv]; exact DGet.t (s2 _ _ e1) upd_same, ?_⟩
    exact k _ _ _ (s1.trans s2) (by simp only [Dn]) q3
end L7
end
section
set_option Elab.async false
set_option linter.all false
set_option maxRecDepth 100000
set_option maxHeartbeats 3999999
namespace L7
open PySem PySem.Spec PyProof.Rows
section
variable {prog : Program} {w : World} {A : Around} {E : Value → Shared → Prop} {s : Shared} {d it : Addr} {o : Obj} {es : Array DictEntry} {ep i : Nat}
end
end L7
end
section
set_option Elab.async false
set_option linter.all false
set_option maxRecDepth 100000
set_option maxHeartbeats 3999999
namespace L8
open PySem PySem.Spec PyProof.Rows L2
noncomputable def valX (kvs : List (KX × V × V)) (k : KX) : Option V := (kvs.find? fun p => decide (p.1 = k)).map (·.2.2)
noncomputable abbrev PL : List (KX × V × V) → List (Key × Value) → Prop := Paired fun p q => p.1 = .inl q.1 ∧ p.2.1 = kV q.1 ∧ RelV p.2.2 q.2
noncomputable abbrev PT (H : Hp) : List (KX × V × V) → List (N1 × Addr × Value) → Prop := Paired fun p q => p.1 = .inr q.1 ∧ p.2.1 = .ref q.2.1 ∧ NestAt H q.1 q.2.1 ∧ RelV p.2.2 q.2.2
theorem PL.val {kvs : List (KX × V × V)} {vs : List (Key × Value)} (r : PL kvs vs) (k : Key) : RelO (valX kvs (.inl k)) (valueAt vs k) := by
  induction r with
  | nil => exact True.intro
  | @cons p q ps qs h t ih =>
    by_cases e : q.1 = k
    · have e1 : p.1 = .inl k := by rw [h.1, e]
      have a : valX (p :: ps) (.inl k) = some p.2.2 := by unfold valX; rw [List.find?_cons, decide_eq_true e1]; rfl
      have b : valueAt (q :: qs) k = some q.2 := by unfold valueAt; rw [List.find?_cons]; simp [e]
      rw [a, b]
      exact h.2.2
    · have e1 : ¬ p.1 = .inl k := fun z => e (by rw [h.1] at z; exact Sum.inl.inj z)
      have a : valX (p :: ps) (.inl k) = valX ps (.inl k) := by unfold valX; rw [List.find?_cons, decide_eq_false e1]
      have b : valueAt (q :: qs) k = valueAt qs k := by unfold valueAt; rw [List.find?_cons]; simp [e]
      rw [a, b]
      exact ih
theorem PT.val {H : Hp} {kvs : List (KX × V × V)} {xs : List (N1 × Addr × Value)} (r : PT H kvs xs) (k : N1) : RelO (valX kvs (.inr k)) ((atKey xs k).map (·.2)) := by
  induction r with
  | nil => exact True.intro
  | @cons p q ps qs h t ih =>
    by_cases e : q.1 = k
    · have e1 : p.1 = .inr k := by rw [h.1, e]
      have a : valX (p :: ps) (.inr k) = some p.2.2 := by unfold valX; rw [List.find?_cons, decide_eq_true e1]; rfl
      have b : atKey (q :: qs) k = some q.2 := by unfold atKey; rw [List.find?_cons]; simp [e]
      rw [a, b]
      exact h.2.2.2
    · have e1 : ¬ p.1 = .inr k := fun z => e (by rw [h.1] at z; exact Sum.inr.inj z)
      have a : valX (p :: ps) (.inr k) = valX ps (.inr k) := by unfold valX; rw [List.find?_cons, decide_eq_false e1]
      have b : atKey (q :: qs) k = atKey qs k := by unfold atKey; rw [List.find?_cons]; simp [e]
      rw [a, b]
      exact ih
section
variable {P : Program} {w : World} {H : Hp} {h : Heap} {a : Addr} {o : Obj} {kvs : List (KX × V × V)}
end
section
variable {X : Cx} {pins : List (Addr × Obj)} {σ : L2.St} {H : Hp} {s : Shared} {a : Addr} {y v z : V} {u r : Value} {A : Around} {E : Value → Shared → Prop} {o : Obj} {kvs : List (KX × V × V)} {k : KX}
end
end L8
end
section
set_option Elab.async false
set_option linter.all false
set_option maxRecDepth 100000
set_option maxHeartbeats 3999999
namespace L8
open PySem PySem.Spec PyProof.Rows L2 L7
section
variable {X : Cx} {o i e f value : Expr} {pos pos' : Pos} {td ty tv tz : TE}
end
end L8
end
section
set_option Elab.async false
set_option linter.all false
set_option maxRecDepth 100000
set_option maxHeartbeats 3999999
namespace L8
open PySem PySem.Spec PyProof.Rows L2 L3 L4
section
variable {K : PySem.W.Frag} {S : Addr → Prop} {H : Hp}
end
section
variable {X : Cx}
section
variable {o i : Expr} {pos : Pos} {fo fi : EF}
end
end
end L8
end
section
set_option Elab.async false
set_option linter.all false
set_option maxRecDepth 100000
set_option maxHeartbeats 3999999
namespace L8
open PySem PySem.Spec PyProof.Rows L2 L3 L4
section
variable {X : Cx}
end
end L8
end
section
set_option Elab.async false
set_option linter.all false
set_option maxRecDepth 100000
set_option maxHeartbeats 3999999
namespace L8
open PySem PySem.Spec PyProof.Rows L2 L3 L4
section
variable {X : Cx}
end
end L8
end
section
set_option Elab.async false
set_option linter.all false
set_option maxRecDepth 100000
set_option maxHeartbeats 3999999
namespace L8
open PySem PySem.Spec PyProof.Rows L2 L3 L4
section
variable {X : Cx}
end
end L8
end
section
set_option Elab.async false
set_option linter.all false
set_option maxRecDepth 100000
set_option maxHeartbeats 3999999
namespace L8
open PySem PySem.Spec PyProof.Rows L2 L3 L4 L5
section
variable {X : Cx}
end
end L8
end
section
set_option Elab.async false
set_option linter.all false
set_option maxRecDepth 100000
set_option maxHeartbeats 3999999
namespace L8
open PySem PySem.Spec PyProof.Rows L2 L3 L4
section
variable {X : Cx}
section
variable {a b : Expr} {fa fb : EF} {pos : Pos}
end
end
end L8
end
section
set_option Elab.async false
set_option linter.all false
set_option maxRecDepth 100000
set_option maxHeartbeats 3999999
namespace L9
open PySem PySem.Spec PyProof.Rows L2 L3 L4 L5
section
variable {X : Cx}
end
end L9
end
section
set_option Elab.async false
set_option linter.all false
set_option maxRecDepth 100000
set_option maxHeartbeats 3999999
namespace L9
open PySem PySem.Spec PyProof.Rows L2 L3 L4 L5
section
variable {X : Cx} {pins : List (Addr × Obj)} {σ : L2.St} {H : Hp} {s : Shared}
theorem rbackK {pinsY pn : List (Addr × Obj)} {hd : Option Value} {σ' : L2.St} (ok : X.Ok) (I : Inv (hcx X hd pn) pinsY σ' H s) (sub : ∀ p ∈ X.pn ++ pins, p ∈ pn) : Inv X pins σ' H s :=
  ⟨ok, I.os, I.bare, I.base, I.loc, I.cell, I.free, I.freeC, fun p h => I.pin p (List.mem_append_left _ (sub p h)), I.hok, I.len⟩
theorem wipedK {h' : Heap} {n : Str} {i : Nat} {t : Nat} {m : Str → Option Value} {v0 : Option Value} (I : Inv X pins σ H s) (hN : X.N.Nodup) (hi : X.N[i]? = some n)
    (hm : ∀ (j : Nat) (x : Str) (v : V), X.N[j]? = some x → σ[j]? = some (some v) → Vis X.env.scope x → ∃ u, RelV v u ∧ Look X.env s.heap m x u)
    (hn : h'.Ns X.env.locals (fun x => if x = n then v0 else m x)) (hs : Heap.SameBut X.env.locals s.heap h') : Inv X pins (σ.set i none) H { s with heap := h', toks := t } := by
  have W := wiped (t := t) I hn hs
  refine ⟨W.ok, W.os, W.bare, W.base, ⟨_, hn, fun j x v h1 h2 h3 => ?_⟩, W.cell, W.free, W.freeC, W.pin, W.hok, by rw [List.length_set]; exact I.len⟩
  rcases get_set h2 with ⟨_, z, _⟩ | ⟨ne, z⟩
  · cases z
  · obtain ⟨u, r, l⟩ := hm j x v h1 z h3
    refine ⟨u, r, ?_⟩
    have xn : x ≠ n := fun e => by
      subst e
      obtain ⟨a1, a2⟩ := List.getElem?_eq_some_iff.1 h1
      obtain ⟨b1, b2⟩ := List.getElem?_eq_some_iff.1 hi
      exact ne ((List.getElem?_inj a1 hN).1 (h1.trans hi.symm))
    rcases l with ⟨k, e⟩ | ⟨k, c, e, ic⟩
    · refine .inl ⟨k, ?_⟩
      show (if x = n then v0 else m x) = some u
      rw [if_neg xn]
      exact e
    · exact .inr ⟨k, c, e, ic.sameBut hs (I.cne x c e)⟩
end
section
variable {X : Cx}
theorem caughtN {pins : List (Addr × Obj)} {σ : L2.St} {H : Hp} {s : Shared} {e C C0 : Addr} {a0 : Value} {P : List Addr} {E : Value → Shared → Prop} {R0 n : Str} {i : Nat} {b0 : Stmt} {suite : List Stmt} {np hpos : Pos} {h5 : Heap} {B : Ends} {N1 : L2.St → Hp → Prop} (I : Inv X pins σ H s) (T : Thrown X pins H s e (.ref C) a0 P)
    (tr : h5.TracedW (PySem.W.hideAll s.heap (P ++ frs X.stack)) e (.ref C) a0) (stay : (PySem.W.hideAll s.heap (P ++ frs X.stack)).StaysIn h5) (fns : h5.FunFrames (PySem.W.hideAll s.heap (P ++ frs X.stack)) X.stack) (us : s.heap.UpToSlots h5)
    (hm0 : X.mg R0 = some (.ref C0)) (hg0 : Gl X R0) (hd0 : (R0 == ("__debug__" : Str)) = false) (hx : PySem.W.exmOne X.K (.ref C) (.ref C0) = some true) (hN : X.N.Nodup) (hi : X.N[i]? = some n) (hl : X.env.scope.names.lookup n = some .local)
    (hB : ∀ σ2 H2, N1 σ2 H2 → B.nx (σ2.set i none) H2)
    (run : ∀ (oe : Obj) (s7 : Shared), oe.cls = .ref C → Inv (hcx X (some (.ref e)) (X.pn ++ pins ++ [(e, oe)])) [] ((List.replicate X.N.length none).set i (some (.ref e))) H s7 →
      wpAny (model X.prog X.w) (X.A.mark (some (.ref e))) (execs (b0 :: suite) X.env) (SP (hcx X (some (.ref e)) (X.pn ++ pins ++ [(e, oe)])) [] { nx := N1, rt := B.rt }) (fun _ _ => False) s7) :
    wpAny (model X.prog X.w) X.A (handleBy (.ref e) X.env [.ExceptHandler (some (.Name R0 np)) (some n) (b0 :: suite) hpos]) (SP X pins B) E { s with heap := h5 } := by
  have kp : ∀ h', (PySem.W.hideAll s.heap (P ++ frs X.stack)).StaysIn h' → ∀ b o, b ∉ P → b ∉ frs X.stack → s.heap.get? b = some o → h'.get? b = some o := fun h' st b o n1 n2 q => st b o (PySem.W.hideAll_get _ q fun z => (List.mem_append.1 z).elim n1 n2)
  have J5 : Inv X pins σ H { s with heap := h5 } := flown I T (kp h5 stay) us
  refine wpAny_handleBy_cons (codeAny_handlers_test ?_) (by intro q; cases q)
  have Z5 : Inv (hcx X (some (.ref e)) []) [] _ H { s with heap := h5 } := recx J5 fun p hp => nomatch hp
  refine ld_glob (X := hcx X (some (.ref e)) []) Z5 hg0 hm0 ?_ hd0
  have LT : PySem.W.Looks (model X.prog X.w) h5 (typeOf (.ref e)) (.ref C) := by
    obtain ⟨oe, _, _, _, _, he, hc, _⟩ := tr
    exact is_type ⟨oe, he, hc.1⟩
  refine (PySem.W.exm_one (K := X.K) J5.kIn LT hx).here ?_
  refine codeAny_handlers_suite_as (n := n) ?_
  refine wpAny_setFlight_noneW (s := { s with heap := h5 }) stay fns tr.at fun h7 j1 j2 j3 j4 => ?_
  have us7 : s.heap.UpToSlots h7 := fun b o eb nf => by
    obtain ⟨sl, q⟩ := us b o eb nf
    exact ⟨sl, j4 b _ q nf⟩
  have J7 : Inv X pins σ H { s with heap := h7 } := flown I T (kp h7 j1) us7
  obtain ⟨oe, vs, T2, oT, ts, he, ⟨hc, _⟩, hd, _⟩ := j3
  have Y7 : Inv (hcx X (some (.ref e)) (X.pn ++ pins ++ [(e, oe)])) [] _ H { s with heap := h7 } := recx J7 fun p hp => by
    rcases List.mem_append.1 hp with hp | hp
    · exact J7.pin p hp
    · rw [List.mem_singleton.1 hp]
      refine ⟨he, T.free e T.mem, fun z => ?_, fun z => ?_, fun v z => by rw [hd] at z; cases z⟩
      · obtain ⟨m, ⟨o, es, ep, ho, hod, _⟩, _⟩ := J7.loc
        have z : e = X.env.locals := z
        rw [← z] at ho
        have q := he.symm.trans ho
        cases q
        rw [hd] at hod
        cases hod
      · obtain ⟨_, o, ho, nf⟩ := J7.funs.mem z
        have q := he.symm.trans ho
        cases q
        exact nf vs hd
  refine store_ok (X := hcx X (some (.ref e)) (X.pn ++ pins ++ [(e, oe)])) Y7 hN hi (.inl hl) (v := .ref e) rfl (fun s8 I8 => ?_) (.inr hl)
  refine wpAny_mono (run oe s8 hc I8) (fun f s9 h9 => ?_) fun _ _ z => z.elim
  cases f with
  | ret u =>
    obtain ⟨v, σ', H', I9, rv, q⟩ := h9
    have B9 : Inv X pins _ H' s9 := rback I.ok I9 fun p hp => List.mem_append_left _ hp
    obtain ⟨m, hn, _⟩ := id B9.loc
    exact wpAny_nameGoes hl hn (by rw [I.ok.kind]; rfl) fun h' m' hn' hs' => ⟨v, _, H', wiped B9 hn' hs', rv, q⟩
  | next =>
    obtain ⟨σ', H', I9, q⟩ := h9
    have B9 : Inv X pins σ' H' s9 := rbackK I.ok I9 fun p hp => List.mem_append_left _ hp
    obtain ⟨m, hn, hm⟩ := id B9.loc
    exact wpAny_nameGoes_keeps hl hn (by rw [I.ok.kind]; rfl) fun h' v0 hn' hs' => ⟨σ'.set i none, H', wipedK B9 hN hi hm hn' hs', hB _ _ q⟩
  | brk => obtain ⟨_, _, _, q⟩ := h9; exact q.elim
  | cont => obtain ⟨_, _, _, q⟩ := h9; exact q.elim
theorem ST.set_no {K : PySem.W.Frag} {H₀ H : Hp} {S : Addr → Prop} {w : Nat → Addr} {σ : L2.St} {ρ : SEnv} {i : Nat} (h : ST K H₀ S w σ H ρ []) (hi : ∀ d, ρ[i]? ≠ some (Sv.ow d)) : ST K H₀ S w (σ.set i none) H (ρ.set i .no) [] := by
  have other : ∀ {j : Nat} {s : Sv}, s ≠ .no → (ρ.set i .no)[j]? = some s → j ≠ i ∧ ρ[j]? = some s := fun {j s} hs q => by
    rcases get_set q with ⟨_, z, _⟩ | z
    · exact absurd z hs
    · exact z
  have keep : ∀ {j : Nat} {v : V}, j ≠ i → σ[j]? = some (some v) → (σ.set i none)[j]? = some (some v) := fun {j v} ne q => by rw [List.getElem?_set_ne (Ne.symm ne)]; exact q
  have so : ∀ a, SO S w ρ a → SO S w (ρ.set i .no) a := SO.mono fun j d q => ⟨d, (other (by intro z; cases z) q).2⟩
  refine ⟨h.fc, h.sm, fun j d q => ?_, fun j k d e q1 q2 z => ?_, fun j d q => ?_, fun g hg => (nomatch hg)⟩
  · obtain ⟨ne, q⟩ := other (by intro z; cases z) q
    obtain ⟨a, b, c⟩ := h.own j d q
    exact ⟨keep ne a, b, c.fits (.mono so) fun _ z => z⟩
  · exact h.inj j k d e (other (by intro z; cases z) q1).2 (other (by intro z; cases z) q2).2 z
  · obtain ⟨ne, q⟩ := other (by intro z; cases z) q
    obtain ⟨v, a, b⟩ := h.ro j d q
    exact ⟨v, keep ne a, Dn.fits (.mono so) d v b⟩
theorem tryN5 {R0 n : Str} {C0 : Addr} {i : Nat} {body : List Stmt} {b0 : Stmt} {suite rest : List Stmt} {np hpos pos : Pos} {fb fr : SF} {fh : Str → Option SEnv} (hst : X.stack = X.env :: X.outer) (hf : X.env.frame = some X.env.locals) (hm0 : X.mg R0 = some (.ref C0)) (hN : X.N.Nodup)
    (hbody : ∀ pn xe, PSs4 { X with pn := pn, xe := xe } body fb) (hrest : PSs4 X rest fr)
    (hh : ∀ c ρ1, fh c = some ρ1 → ∃ (C : Addr) (g : Nat → SF) (ρh : Nat → SEnv), X.mg c = some (.ref C) ∧ PySem.W.exmOne X.K (.ref C) (.ref C0) = some true ∧ (∀ e : Nat, g e ((List.replicate X.N.length Sv.no).set i (.ro (.exc c e))) = .nx (ρh e) ∧ (ρh e).set i .no = ρ1 ∧ ∀ d, (ρh e)[i]? ≠ some (Sv.ow d)) ∧
      ∀ (e : Addr) (oe : Obj) (pn : List (Addr × Obj)), oe.cls = .ref C → PSs4 (hcx X (some (.ref e)) (pn ++ [(e, oe)])) (b0 :: suite) (g e))
    (hi : X.N[i]? = some n := by rfl) (hl : X.env.scope.names.lookup n = some .local := by rfl) (hg0 : Gl X R0 := by rfl) (hd0 : (R0 == ("__debug__" : Str)) = false := by decide) :
    PSs4 X (.Try body [.ExceptHandler (some (.Name R0 np)) (some n) (b0 :: suite) hpos] [] [] pos :: rest) (sTryN fb fh fr) := by
  intro pins s σ H B I ⟨H₀, S, w, ρ, G, E, hlen, st, ht, ok⟩
  generalize hB2 : ({ B with nx := fun σ' H' => liftS X.K (XC X) X.N.length (wS fr) B σ' H' } : Ends) = B2
  refine wpAny_execs_cons (thn (Q := SP X pins B2) ?_ fun f s1 q => ?_)
  rotate_left
  · subst hB2
    cases f with
    | next =>
      obtain ⟨σ', H', I', q⟩ := q
      exact hrest pins s1 σ' H' B I' q
    | ret v => exact q
    | brk => exact q
    | cont => exact q
  refine wpAny_Try_except ?_
  generalize hxe : (fun (e : Value) (s1 : Shared) => wpAny (model X.prog X.w) X.A (noteFrame e X.env) (fun _ s2 => wpAny (model X.prog X.w) X.A (setFlight e none) (fun _ s3 => wpAny (model X.prog X.w) X.A (handleBy e X.env [.ExceptHandler (some (.Name R0 np)) (some n) (b0 :: suite) hpos]) (SP X pins B2) X.xe s3) X.xe s2) X.xe s1) = xe
  have I' : Inv { X with pn := X.pn ++ pins, xe := xe } [] σ H s :=
    ⟨⟨I.ok.mod, I.ok.kind, I.ok.glob, I.ok.blt, I.ok.above, I.ok.inj, I.ok.has, I.ok.cab, I.ok.hd, I.ok.frames, I.ok.stk, I.ok.exf, I.ok.bs, I.ok.bsz, I.ok.noex, I.ok.exfs, I.ok.funs, I.ok.frf⟩, I.os, I.bare, I.base, I.loc, I.cell, I.free, I.freeC, fun p hp => I.pin p (by have hp : p ∈ (X.pn ++ pins) ++ [] := hp; rw [List.append_nil] at hp; exact hp), I.hok, I.len⟩
  have back : ∀ {pins2 : List (Addr × Obj)} {σ2 : L2.St} {H2 : Hp} {s2 : Shared}, Inv { X with pn := X.pn ++ pins, xe := xe } pins2 σ2 H2 s2 → Inv X pins σ2 H2 s2 := fun J => ⟨I.ok, J.os, J.bare, J.base, J.loc, J.cell, J.free, J.freeC, fun p hp => J.pin p (List.mem_append_left _ hp), J.hok, J.len⟩
  have ht' : wS fb { E with nx := fun ρ' => wS fr E ρ', ex := fun c => ∃ ρ1 d, fh c = some ρ1 ∧ fr ρ1 = .rt d ∧ E.rt d } ρ := by
    unfold wS sTryN at ht
    unfold wS
    cases hb : fb ρ with
    | nx ρ' => rw [hb] at ht; exact ht
    | rt d => rw [hb] at ht; exact ht
    | no => rw [hb] at ht; exact ht
    | ex c =>
      rw [hb] at ht
      dsimp only at ht ⊢
      cases hc : fh c with
      | none => rw [hc] at ht; exact ht.elim
      | some ρ1 =>
        rw [hc] at ht
        dsimp only at ht
        cases hr : fr ρ1 with
        | rt d => rw [hr] at ht; exact ⟨ρ1, d, rfl, hr, ht⟩
        | nx _ => rw [hr] at ht; exact ht.elim
        | no => rw [hr] at ht; exact ht.elim
        | ex _ => rw [hr] at ht; exact ht.elim
  have ok' : EndsOk X.K (XC { X with pn := X.pn ++ pins, xe := xe }) X.N.length H₀ S G { E with nx := fun ρ' => wS fr E ρ', ex := fun c => ∃ ρ1 d, fh c = some ρ1 ∧ fr ρ1 = .rt d ∧ E.rt d } B2 := ⟨fun w2 σ2 H2 ρ2 l2 st2 q => by
      rw [← hB2]
      exact ⟨H₀, S, w2, ρ2, G, E, l2, st2, q, ok⟩, fun v H2 d2 s2 dn z => by rw [← hB2]; exact ok.rt v H2 d2 s2 dn z, fun w2 σ2 H2 ρ2 l2 st2 z => by rw [← hB2]; exact ok.bk w2 σ2 H2 ρ2 l2 st2 z, fun w2 σ2 H2 ρ2 l2 st2 z => by rw [← hB2]; exact ok.ct w2 σ2 H2 ρ2 l2 st2 z, fun c H' sm ⟨ρ1, d, hfd, hfr, q⟩ => by
    obtain ⟨C, g, ρh, hmc, hx, hg, hs⟩ := hh c ρ1 hfd
    refine ⟨C, hmc, fun pins2 σ2 s2 e a0 P I2 T2 => ?_⟩
    have IX := back I2
    have TX : Thrown X pins H' s2 e (.ref C) a0 P := ⟨T2.mem, T2.free, T2.new, T2.fld, fun q hq p hp => T2.pin q hq p (List.mem_append_left _ hp), T2.tr⟩
    show xe (.ref e) s2
    rw [← hxe]
    obtain ⟨g1, g2, g3⟩ := hg e
    refine looked hst hf IX TX fun h' J tr stay fns us => caughtN (N1 := fun σ3 H3 => ∃ w3, σ3.length = X.N.length ∧ ST X.K H₀ S w3 σ3 H3 (ρh e) []) IX TX tr stay fns us hm0 hg0 hd0 hx hN hi hl (fun σ3 H3 ⟨w3, l3, st3⟩ => ?_) fun oe s7 hc I7 => ?_
    · rw [← hB2]
      refine ⟨H₀, S, w3, (ρh e).set i .no, [], { nx := fun _ => False, rt := E.rt }, by rw [List.length_set]; exact l3, ST.set_no st3 g3, ?_, ⟨fun _ _ _ _ _ _ z => z.elim, fun v H2 d2 s2 dn z => ok.rt v H2 d2 s2 dn z, fun _ _ _ _ _ _ z => z.elim, fun _ _ _ _ _ _ z => z.elim, fun _ _ _ z => z.elim⟩⟩
      show wS fr _ _
      unfold wS
      rw [g2, hfr]
      exact q
    · have hrt : B2.rt = B.rt := by rw [← hB2]
      rw [hrt]
      refine (hs e oe (X.pn ++ pins) hc) [] s7 _ H' _ I7 ⟨H₀, S, fun _ => 0, (List.replicate X.N.length Sv.no).set i (.ro (.exc c e)), [], { nx := fun ρ2 => ρ2 = ρh e, rt := fun _ => False }, ?_, ⟨st.fc, sm, fun j d2 z => ?_, fun j k d1 d2 z => ?_, fun j d2 z => ?_, fun g hg => (nomatch hg)⟩, ?_, ⟨fun w3 σ3 H3 ρ3 l3 st3 z => ⟨w3, l3, by rw [← z]; exact st3⟩, fun _ _ _ _ _ z => z.elim, fun _ _ _ _ _ _ z => z, fun _ _ _ _ _ _ z => z, fun _ _ _ z => z.elim⟩⟩
      · show ((List.replicate X.N.length (none : Option V)).set i (some (.ref e))).length = X.N.length
        rw [List.length_set, List.length_replicate]
      · rcases get_set z with ⟨_, z, _⟩ | ⟨_, z⟩
        · cases z
        · rw [List.getElem?_replicate] at z; split at z <;> cases z
      · rcases get_set z with ⟨_, z, _⟩ | ⟨_, z⟩
        · cases z
        · rw [List.getElem?_replicate] at z; split at z <;> cases z
      · rcases get_set z with ⟨rfl, z, hj⟩ | ⟨_, z⟩
        · cases z
          exact ⟨.ref e, List.getElem?_set_self (by simpa using hj), by simp only [Dn]⟩
        · rw [List.getElem?_replicate] at z; split at z <;> cases z
      · show wS (g e) _ _
        unfold wS
        rw [g1]⟩
  have run := hbody (X.pn ++ pins) xe [] s σ H B2 I' ⟨H₀, S, w, ρ, G, _, hlen, st, ht', ok'⟩
  rw [← hxe] at run ⊢
  refine wpAny_mono run (fun f s1 h => ?_) fun _ _ z => z
  cases f with
  | next =>
    obtain ⟨σ', H', J, q⟩ := h
    rw [hxe] at J
    exact pss_nil pins s1 σ' H' B2 (back J) q
  | brk => obtain ⟨σ', H', J, q⟩ := h; rw [hxe] at J; exact ⟨σ', H', back J, q⟩
  | cont => obtain ⟨σ', H', J, q⟩ := h; rw [hxe] at J; exact ⟨σ', H', back J, q⟩
  | ret u => obtain ⟨v, σ', H', J, rv, q⟩ := h; rw [hxe] at J; exact ⟨v, σ', H', back J, rv, q⟩
end
end L9
end
section
set_option Elab.async false
set_option linter.all false
set_option maxRecDepth 100000
set_option maxHeartbeats 3999999
namespace L9
open PySem PySem.SeqAt PySem.Spec PyProof.Rows L2 L3 L4 L5
section
variable {X : Cx}
theorem vals_bls : ∀ {bs : List Bool} {us : List Value}, Vals (bs.map V.bl) us → us = bs.map Value.bool
  | [], _, .nil => rfl
  | b :: bs, _, .cons r t => by
    have e := vals_bls t
    subst e
    cases r
    rfl
theorem eq_tr {bs : List Bool} {A : Around} {s : Shared} : ∀ y, y ∈ bs.map Value.bool → EqAt A s y (.bool true) (isBoolOf true y) := fun y hy => by
  obtain ⟨b, _, rfl⟩ := List.mem_map.1 hy
  exact EqAt.bool_bool b true
theorem is_tr (b : Bool) : isBoolOf true (.bool b) = b := by cases b <;> rfl
theorem cnt_tr : ∀ bs : List Bool, (bs.map Value.bool).countP (isBoolOf true) = (bs.filter id).length
  | [] => rfl
  | b :: bs => by
    have ih := cnt_tr bs
    rw [List.map_cons, List.countP_cons, is_tr, ih, List.filter_cons]
    cases b <;> rfl
noncomputable def rCountB (K : PySem.W.Frag) : V → List V → Hp → VK → Prop := fun x xs H Q => ∃ (a : Addr) (bs : List Bool), x = .ref a ∧ xs = [.bl true] ∧ SqL K H a (bs.map V.bl) ∧ Q (.int ((bs.filter id).length : Nat)) H
theorem mt_countB : MtR X "list.count" (rCountB X.K) := by
  intro pins s σ H x xs v us Q I rx r h
  obtain ⟨a, bs, rfl, rfl, ha, q⟩ := h
  obtain ⟨u, rfl, ru⟩ := vals1 r
  cases ru
  cases rx
  obtain ⟨its, rv, p, hz⟩ := I.list ha
  have ei := vals_bls rv
  subst ei
  obtain ⟨o, n, ho, hc, hd, hq⟩ := id p
  obtain ⟨cls, dd, data, sl⟩ := o
  simp only at hc hd hq
  subst hc hd hq
  refine call_meets PySem.F.slot_list_count ⟨_, ho, rfl⟩ PySem.F.entry_list_count (PySem.F.args_list_count_2 _ _) (list_countAt a (bs.map Value.bool).toArray n none sl (.bool true) (isBoolOf true)) ⟨ho, fun y hy => eq_tr y (by simpa using hy), ?_⟩
  rw [show (bs.map Value.bool).toArray.toList = bs.map Value.bool from rfl, cnt_tr]
  exact ⟨.int ((bs.filter id).length : Nat), H, I.kept fun _ _ e => e, ⟨_, rfl⟩, q⟩
noncomputable def rIndexB (K : PySem.W.Frag) : V → List V → Hp → VK → Prop := fun x xs H Q => ∃ (a : Addr) (bs : List Bool) (i : Nat), x = .ref a ∧ xs = [.bl true] ∧ SqL K H a (bs.map V.bl) ∧ bs.findIdx? id = some i ∧ Q (.int (i : Int)) H
theorem mt_indexB : MtR X "list.index" (rIndexB X.K) := by
  intro pins s σ H x xs v us Q I rx r h
  obtain ⟨a, bs, i, rfl, rfl, ha, hi, q⟩ := h
  obtain ⟨u, rfl, ru⟩ := vals1 r
  cases ru
  cases rx
  obtain ⟨its, rv, p, hz⟩ := I.list ha
  have ei := vals_bls rv
  subst ei
  obtain ⟨o, n, ho, hc, hd, hq⟩ := id p
  obtain ⟨cls, dd, data, sl⟩ := o
  simp only at hc hd hq
  subst hc hd hq
  obtain ⟨hil, hit, hno⟩ := List.findIdx?_eq_some_iff_getElem.1 hi
  have hl : bs.length ≤ sizeLine := by rw [List.length_map] at hz; exact hz
  have hb : sizeLine < 2 ^ 62 := by decide
  refine call_meets PySem.F.slot_list_index ⟨_, ho, rfl⟩ PySem.F.entry_list_index (PySem.F.args_list_index_2 _ _) (list_indexAt a (bs.map Value.bool).toArray n none sl (.bool true) (isBoolOf true) i (by simpa using hil) (by omega) ?_ fun m hm hlt => ?_) ⟨ho, fun y hy => eq_tr y (by simpa using hy), ?_⟩
  · simp only [List.getElem_toArray, List.getElem_map, is_tr]
    exact hit
  · simp only [List.getElem_toArray, List.getElem_map, is_tr]
    have := hno m hlt
    simpa using this
  · exact ⟨.int (i : Int), H, I.kept fun _ _ e => e, ⟨_, rfl⟩, q⟩
theorem dns_bls {K : PySem.W.Frag} {S : Addr → Prop} {H : Hp} : ∀ {ds : List D} {bs : List Bool} {xs : List V}, L4.blsOf ds = some bs → Dns K S H ds xs → xs = bs.map V.bl
  | [], bs, xs, h, hd => by
    cases h
    simp only [Dns] at hd
    exact hd
  | d :: ds, bs, xs, h, hd => by
    cases d with
    | bl b =>
      obtain ⟨bs', e, h2⟩ := Option.map_eq_some_iff.1 (show (L4.blsOf ds).map (b :: ·) = some bs from h)
      subst h2
      obtain ⟨v, r, rfl, h1, h3⟩ := hd.uncons
      simp only [Dn] at h1
      subst h1
      rw [dns_bls e h3]
      rfl
    | _ => cases h
section
variable {o e : Expr} {fo fe : EF} {apos cpos : Pos}
theorem countB4 (ho : PE4 X o fo) (he : PE4 X e fe) (hbase : attributeBase o "count" X.env (eval o X.env) = eval o X.env := by rfl)
    (hfew : ((backTo cpos (starEach [e] X.env)).all (fun x => !x.1) && (backToKw cpos (keywordEach [] X.env)).all (fun x => x.1.isSome)
      && decide ([e].length + ([] : List Keyword).length + (if ([] : List Keyword).isEmpty then 0 else 1) < 30)) = true := by rfl)
    (hline : (apos.endLine == cpos.line) = true := by rfl) (hs : starEach [e] X.env = (false, eval e X.env) :: starEach [] X.env := by rfl) (hplain : (backTo cpos (starEach [] X.env)).any (·.1) = false := by rfl) :
    PE4 X (.Call (.Attribute o "count" apos) [e] [] cpos) (eBin countTM fo fe) :=
  imp (pe_bm F.plainAttrs_list F.slot_list_count F.type_list_count mt_countB ho (pa_cons he pa_nil hs) hbase hfew hline hs hplain) fun σ H Q hq99 => by
    obtain ⟨S, ρ, Q3, fc, sl, ⟨d, ed, q3⟩, k⟩ := hq99
    obtain ⟨dx, ex, ed⟩ := bnd ed
    obtain ⟨dy, ey, ed⟩ := bnd ed
    unfold countTM at ed
    split at ed
    · rename_i ds _
      obtain ⟨bs, eb, rfl⟩ := Option.map_eq_some_iff.1 ed
      refine ⟨S, ρ, fun z => z = .lst ds, fc, sl, ⟨_, ex, rfl⟩, fun v H1 d1 s1 dn1 q1 => ?_⟩
      subst q1
      simp only [Dn] at dn1
      obtain ⟨a, xs, rfl, ha, hS, dn1⟩ := dn1
      have ex2 := dns_bls eb dn1
      subst ex2
      refine ⟨.inl ⟨rfl, _, SqL.of ha⟩, S, ρ, fun z => z = .bl true, fc_same fc s1, Sl.fits (.same s1) sl, ⟨_, ey, rfl⟩, fun v2 H2 d2 s2 dn2 q2 => ?_⟩
      subst q2
      simp only [Dn] at dn2
      subst dn2
      exact ⟨a, bs, rfl, rfl, SqL.of (s2 _ _ ha), k _ H2 _ (s1.trans s2) (by simp only [Dn]) q3⟩
    · cases ed
theorem indexB4 (ho : PE4 X o fo) (he : PE4 X e fe) (hbase : attributeBase o "index" X.env (eval o X.env) = eval o X.env := by rfl)
    (hfew : ((backTo cpos (starEach [e] X.env)).all (fun x => !x.1) && (backToKw cpos (keywordEach [] X.env)).all (fun x => x.1.isSome)
      && decide ([e].length + ([] : List Keyword).length + (if ([] : List Keyword).isEmpty then 0 else 1) < 30)) = true := by rfl)
    (hline : (apos.endLine == cpos.line) = true := by rfl) (hs : starEach [e] X.env = (false, eval e X.env) :: starEach [] X.env := by rfl) (hplain : (backTo cpos (starEach [] X.env)).any (·.1) = false := by rfl) :
    PE4 X (.Call (.Attribute o "index" apos) [e] [] cpos) (eBin indexTM fo fe) :=
  imp (pe_bm F.plainAttrs_list F.slot_list_index F.type_list_index mt_indexB ho (pa_cons he pa_nil hs) hbase hfew hline hs hplain) fun σ H Q hq100 => by
    obtain ⟨S, ρ, Q3, fc, sl, ⟨d, ed, q3⟩, k⟩ := hq100
    obtain ⟨dx, ex, ed⟩ := bnd ed
    obtain ⟨dy, ey, ed⟩ := bnd ed
    unfold indexTM at ed
    split at ed
    · rename_i ds _
      obtain ⟨bs, eb, ed⟩ := bnd ed
      obtain ⟨i, ei, rfl⟩ := Option.map_eq_some_iff.1 ed
      refine ⟨S, ρ, fun z => z = .lst ds, fc, sl, ⟨_, ex, rfl⟩, fun v H1 d1 s1 dn1 q1 => ?_⟩
      subst q1
      simp only [Dn] at dn1
      obtain ⟨a, xs, rfl, ha, hS, dn1⟩ := dn1
      have ex2 := dns_bls eb dn1
      subst ex2
      refine ⟨.inl ⟨rfl, _, SqL.of ha⟩, S, ρ, fun z => z = .bl true, fc_same fc s1, Sl.fits (.same s1) sl, ⟨_, ey, rfl⟩, fun v2 H2 d2 s2 dn2 q2 => ?_⟩
      subst q2
      simp only [Dn] at dn2
      subst dn2
      exact ⟨a, bs, i, rfl, rfl, SqL.of (s2 _ _ ha), ei, k _ H2 _ (s1.trans s2) (by simp only [Dn]) q3⟩
    · cases ed
end
end
end L9
end
section
set_option Elab.async false
set_option linter.all false
set_option maxRecDepth 100000
set_option maxHeartbeats 3999999
namespace L9
open PySem PySem.Spec PyProof.Rows L2 L3 L4 L5
structure QE (X : Cx) (e : Expr) (f : EF) : Prop where un : PE4 X e f
structure QA (X : Cx) (es : List Expr) (f : AF) : Prop where un : PA4 X es f
structure Q1 (X : Cx) (s : Stmt) (f : SF) : Prop where un : PS4 X s f
structure QS (X : Cx) (ss : List Stmt) (f : SF) : Prop where un : PSs4 X ss f
section
variable {X : Cx}
theorem qI {i : Int} {j pos} : QE X (.Constant (.int i) j pos) (eC (.int i)) := ⟨i4⟩
theorem qX (i : Nat) {x : Str} {pos : Pos} (hN : X.N[i]? = some x := by rfl) (hv : Vis X.env.scope x := by first | exact Or.inl rfl | exact Or.inr (Or.inl rfl) | exact Or.inr (Or.inr rfl)) (hd : (x == ("__debug__" : Str)) = false := by decide)
    (hcd : (x == ("__classdict__" : Str)) = false := by decide) : QE X (.Name x pos) (eVar i) := ⟨x4 i hN hv hd hcd⟩
theorem qTup {es : List Expr} {t : AF} {x1} {pos : Pos} (h : QA X es t) : QE X (.Tuple es x1 pos) (eTup t) := ⟨tup4 h.un⟩
theorem qLst {es : List Expr} {t : AF} {pos : Pos} (h : QA X es t) : QE X (.List es pos) (eLst t) := ⟨PF4.pe (lst4 h.un)⟩
theorem qAdd {a b : Expr} {fa fb : EF} {pos : Pos} (ha : QE X a fa) (hb : QE X b fb) : QE X (.BinOp a .Add b pos) (eBin addM fa fb) := ⟨add4 ha.un hb.un⟩
theorem qNil : QA X [] aNil := ⟨nil4⟩
theorem qCons {e : Expr} {es : List Expr} {fe : EF} {t : AF} (ha : QE X e fe) (hr : QA X es t) (hs : starEach (e :: es) X.env = (false, eval e X.env) :: starEach es X.env := by rfl) : QA X (e :: es) (aCons fe t) := ⟨cons4 ha.un hr.un hs⟩
theorem qSet {e : Expr} {f : EF} {i : Nat} {x : Str} {pos pos' : Pos} (hN : X.N.Nodup) (he : QE X e f) (hi : X.N[i]? = some x := by rfl) (hx : Loc X.env.scope x := by first | exact .inl rfl | exact .inr rfl) (hs : swapsWith e (some (.Name x pos')) pos.line X.env = pure false := by rfl) (hf : X.fn x = true ∨ X.env.scope.names.lookup x = some .local := by first | exact .inl rfl | exact .inr rfl) :
    Q1 X (.Assign [.Name x pos'] e pos) (sSet i f) := ⟨set4 hN he.un hi hx hs hf⟩
theorem qIf {c : Expr} {a b : List Stmt} {pos : Pos} {t : TF} {f g : SF} (hc : PT4 X c t) (ha : QS X a f) (hb : QS X b g) : Q1 X (.If c a b pos) (sIf t f g) := ⟨ifS4 hc ha.un hb.un⟩
theorem qSeq {st : Stmt} {rest : List Stmt} {f g : SF} (h1 : Q1 X st f) (h2 : QS X rest g) : QS X (st :: rest) (sSeq f g) := ⟨seq4 h1.un h2.un⟩
theorem qLast {st : Stmt} {f : SF} (h1 : Q1 X st f) : QS X [st] f := ⟨last4 h1.un⟩
end
end L9
end
section
set_option Elab.async false
set_option linter.all false
set_option maxRecDepth 100000
set_option maxHeartbeats 3999999
namespace K10
open PySem L2 L3 L4 L6 L7 L8 L9 L5
noncomputable def top (i : Nat) : Stmt := PySem.Challenge.pw_risecount_k10_goings_listed.main.body.getD i (.Pass ⟨0, 0, 0, 0⟩)
section
variable {P : Program} {w : World} {K : PySem.W.Frag} {mg : Str → Option Value} {base : Heap} {f : Addr} {fd : FuncData}
noncomputable abbrev s_joined : Stmt := top 21
theorem sc_joined : FnScope ["ahead", "thing"] ["ahead", "thing"] (defScope s_joined) := ⟨rfl, rfl, rfl, by decide +kernel, rfl, by decide +kernel, by decide +kernel⟩
theorem ok_joined {kk : Nat} (F : Fun K "joined" "joined" s_joined f fd) (m_sorted : mg "sorted" = none) (m_tuple : mg "tuple" = none) : FnOk P w K mg base CX0 (kk + 1) f fd ["ahead", "thing"] (sp4 K LL.f_joined) := by
  refine fun4 F sc_joined rfl rfl (fun cdv A outer s H E hr => ?_)
  have nd := sc_joined.nd
  exact (last4 (ret4 (tuple4 m_tuple (cons4 (PF4.pe (sortedP4 m_sorted (cons4 (add4 (x4 0) (tup4 (cons4 (x4 1) nil4))) nil4))) nil4))))
noncomputable abbrev s_ready_things : Stmt := top 20
theorem sc_ready_things : FnScope ["order", "ahead", "others"] ["order", "ahead"] (defScope s_ready_things) := ⟨rfl, rfl, rfl, by decide +kernel, rfl, by decide +kernel, by decide +kernel⟩
theorem ok_ready_things {kk : Nat} (F : Fun K "ready_things" "ready_things" s_ready_things f fd) (m_all : mg "all" = none) (m_len : mg "len" = none) (m_range : mg "range" = none) : FnOk P w K mg base CX0 (kk + 1) f fd ["order", "ahead"] (sp4 K LL.f_ready_things) := by
  refine fun4 F sc_ready_things rfl rfl (fun cdv A outer s H E hr => ?_)
  have nd := sc_ready_things.nd
  exact (seq4 (setCompR4 (i := 2) (ls := ["thing"]) (fs := ["ahead"]) (fr := [1]) nd rfl (range14 m_range (len4 m_len (cons4 (x4 0) nil4))) (fun _ _ _ _ _ _ nd => bname4 (i := 0) nd (by decide)) (fun _ _ _ _ _ _ => oneif4 (ninT4 (x4 0) (x4 1))) (fun _ _ _ _ _ _ => (x4 0)))
    (last4 (ret4 (PF4.pe (comp4 (ls := ["thing"]) (fs := ["ahead", "order"]) (fr := [1, 0]) rfl (walk4 (x4 2)) (fun _ _ _ _ _ _ nd => bname4 (i := 0) nd (by decide)) (fun _ _ _ _ _ _ => oneif4 (val4 (all4 rfl m_all (cons4 (PF4.pe (comp4 (ls := ["lower"]) (fs := ["ahead"]) (fr := [1]) rfl (walk4 (ix4 (x4 2) (x4 0))) (fun _ _ _ _ _ _ nd => bname4 (i := 0) nd (by decide)) (fun _ _ _ _ _ _ => noif4) (fun _ _ _ _ _ _ => (in4 (x4 0) (x4 1))))) nil4)))) (fun _ _ _ _ _ _ => (x4 0)))))))
noncomputable abbrev s_find_ways : Stmt := top 23
theorem sc_find_ways : FnScope ["order", "ahead", "ways", "further"] ["order", "ahead", "ways"] (defScope s_find_ways) := ⟨rfl, rfl, rfl, by decide +kernel, rfl, by decide +kernel, by decide +kernel⟩
noncomputable def w_f1 : TF := tV (eBin eqM (eCB lenM (aCons (eVar 1) aNil)) (eCB lenM (aCons (eVar 0) aNil)))
noncomputable def w_g3 : EF := eComp 1 [1] (iWalk (eCall LL.f_ready_things (aCons (eVar 0) (aCons (eVar 1) aNil)))) (g1 0) tTrue (eCall LL.f_joined (aCons (eVar 1) (aCons (eVar 0) aNil)))
theorem body_find_ways {k : Nat} {g1 g2 : Addr} {d1 d2 : FuncData} (F_ready_things : FnOk P w K mg base CX0 k g1 d1 ["order", "ahead"] (sp4 K LL.f_ready_things)) (m_ready_things : mg "ready_things" = some (.ref g1)) (k_ready_things : PySem.W.keepIn K (.ref g1) = true) (b_ready_things : Binds K d1 ["order", "ahead"] []) (F_joined : FnOk P w K mg base CX0 k g2 d2 ["ahead", "thing"] (sp4 K LL.f_joined)) (m_joined : mg "joined" = some (.ref g2)) (k_joined : PySem.W.keepIn K (.ref g2) = true) (b_joined : Binds K d2 ["ahead", "thing"] []) (m_find_ways : mg "find_ways" = some (.ref f)) (k_find_ways : PySem.W.keepIn K (.ref f) = true) (b_find_ways : Binds K fd ["order", "ahead", "ways"] []) (m_len : mg "len" = none) (m_sum : mg "sum" = none)
    {sp : Sp} (F_find : FnOk P w K mg base CX0 k f fd ["order", "ahead", "ways"] sp) (cdv : Value) (A : Around) (outer : List Env) (s : Shared) (H : Hp) (E : XK) (hr : Room k (A.deeper (PyProof.Rows.envOfC "find_ways" (defScope s_find_ways) s.heap.objs.size f cdv))) :
    ∃ xc, PSs (cxOf CX0 P w K mg base ["order", "ahead", "ways", "further"] "find_ways" (defScope s_find_ways) f cdv A outer s H E).nox (defBody s_find_ways) (tWays (liftT K (wT w_f1)) (lift K (wE (eC (.int 1)))) (liftS K xc 4 (wS (sSet 3 w_g3))) (tSumW K sp E0)) := by
  have nd := sc_find_ways.nd
  have hu : (A.deeper (PyProof.Rows.envOfC "find_ways" (defScope s_find_ways) s.heap.objs.size f cdv)).units + 1 < cLine := by have := hr.un; omega
  refine ⟨XC (cxOf CX0 P w K mg base ["order", "ahead", "ways", "further"] "find_ways" (defScope s_find_ways) f cdv A outer s H E).nox, pss_cons (ps_if (eqT4 (len4 m_len (cons4 (x4 1) nil4)) (len4 m_len (cons4 (x4 0) nil4))) (pss_one (ps_dput hu (pe_var (i := 2) rfl (.inr (.inl rfl))) (pe_var (i := 1) rfl (.inr (.inl rfl))) i4 rfl)) pss_nil)
    (pss_cons (ps_if (pt_cmp (pc_dnotin hu (pe_var (i := 1) rfl (.inr (.inl rfl))) (pe_var (i := 2) rfl (.inr (.inl rfl))))) (pss_cons ?c1 (pss_one (ps_dput hu (pe_var (i := 2) rfl (.inr (.inl rfl))) (pe_var (i := 1) rfl (.inr (.inl rfl))) ?c2 rfl))) pss_nil)
    (pss_one (ps_ret (pe_dget hu (pe_var (i := 2) rfl (.inr (.inl rfl))) (pe_var (i := 1) rfl (.inr (.inl rfl))) (fun _ _ => rfl)))))⟩
  case c1 => exact setCompR4 (i := 3) (ls := ["thing"]) (fs := ["ahead"]) (fr := [1]) nd rfl (walk4 (call4 F_ready_things hr m_ready_things k_ready_things b_ready_things (cons4 (x4 0) (cons4 (x4 1) nil4)))) (fun _ _ _ _ _ _ nd => bname4 (i := 0) nd (by decide)) (fun _ _ _ _ _ _ => noif4) (fun _ _ _ _ _ _ => (call4 F_joined hr m_joined k_joined b_joined (cons4 (x4 1) (cons4 (x4 0) nil4))))
  case c2 =>
    refine pe_callB (call_sum3 rfl) rfl m_sum PyProof.Rows.boot_sum (pa_cons (pe_comp (ls := ["longer"]) (fs := ["order", "ways"]) (fr := [0, 2]) rfl (chk_ok rfl) (pi_list (pe_var (i := 3) rfl (.inl rfl))) (fun cl C pn ex s H => ?_) (fun cl C pn ex s H => if_none) (fun cl C pn ex s H => ?_)) pa_nil)
    · exact pg_name (i := 0) (show (["longer", "order", "ways"] : List Str).Nodup by decide +kernel) rfl (.inl rfl)
    · exact pe_call F_find hr rfl m_find_ways k_find_ways b_find_ways .nil pass0 (pa_cons (pe_var (i := 1) rfl (by first | exact .inl rfl | exact .inr (.inl rfl) | exact .inr (.inr rfl))) (pa_cons (pe_var (i := 0) rfl (.inl rfl)) (pa_cons (pe_var (i := 2) rfl (by first | exact .inl rfl | exact .inr (.inl rfl) | exact .inr (.inr rfl))) pa_nil)))
theorem w_h1 {x : List (List Int)} {a : List Int} {p : Addr} : w_f1 (wenv x a p) = some (decide (a.length = x.length)) := by
  unfold w_f1
  refine LL.tvE (d := .bl (decide ((a.length : Int) = x.length))) (LL.binE (x := .int a.length) (y := .int x.length) (LL.cb1E (x := LL.tupI a) rfl (by unfold LL.tupI; rw [LL.lenM_tup, List.length_map])) (LL.cb1E (x := LL.ordD x) rfl LL.len_ord) LL.eqM_int) ?_
  have e : decide ((a.length : Int) = x.length) = decide (a.length = x.length) := by
    by_cases h : a.length = x.length
    · rw [decide_eq_true h, decide_eq_true (by omega)]
    · rw [decide_eq_false h, decide_eq_false (by omega)]
  rw [e]
  rfl
theorem good_of {x : List (List Int)} (h : goodX x = true) : x.length ≤ 9 ∧ ∀ r ∈ x, r.length ≤ 9 := by
  unfold goodX at h
  rw [Bool.and_eq_true, decide_eq_true_eq, List.all_eq_true] at h
  exact ⟨h.1, fun r hr => by simpa using h.2 r hr⟩
theorem w_h3 {x : List (List Int)} {a : List Int} {p : Addr} (hg : goodX x = true) (ok : LL.okI x a) : w_g3 (wenv x a p) = some (.lst ((LL.rdI x a).map LL.tupI)) := by
  obtain ⟨h9, hr⟩ := good_of hg
  have la := LL.okI_len ok
  have lr := LL.ready_few ok
  unfold w_g3 LL.rdI
  rw [List.map_map]
  refine LL.compE ((LL.readyI x a).map D.int) ?_ (by rw [List.length_map]; omega) ?_
  · unfold iWalk
    rw [LL.call2E (x := LL.ordD x) (y := LL.tupI a) rfl rfl (LL.ready_ok h9 hr)]
    rfl
  · exact LL.comp_mapE D.int (fun t => LL.tupI (LL.joinI a t)) (LL.readyI x a) fun t _ => ⟨[some (.int t), some (LL.tupI a)], rfl, LL.call2E (x := LL.tupI a) (y := .int t) rfl rfl (LL.joined_ok (by omega))⟩
theorem ok_find_ways {kk : Nat} {g1 g2 : Addr} {d1 d2 : FuncData} (F : Fun K "find_ways" "find_ways" s_find_ways f fd) (F_ready_things : FnOk P w K mg base CX0 kk g1 d1 ["order", "ahead"] (sp4 K LL.f_ready_things)) (m_ready_things : mg "ready_things" = some (.ref g1)) (k_ready_things : PySem.W.keepIn K (.ref g1) = true) (b_ready_things : Binds K d1 ["order", "ahead"] []) (F_joined : FnOk P w K mg base CX0 kk g2 d2 ["ahead", "thing"] (sp4 K LL.f_joined)) (m_joined : mg "joined" = some (.ref g2)) (k_joined : PySem.W.keepIn K (.ref g2) = true) (b_joined : Binds K d2 ["ahead", "thing"] []) (m_find_ways : mg "find_ways" = some (.ref f)) (k_find_ways : PySem.W.keepIn K (.ref f) = true) (b_find_ways : Binds K fd ["order", "ahead", "ways"] []) (m_len : mg "len" = none) (m_sum : mg "sum" = none)
    {x : List (List Int)} (hg : goodX x = true) : FnOk P w K mg base CX0 (kk + 10) f fd ["order", "ahead", "ways"] (spW (LL.rdI x) K x (LL.okI x) x.length) :=
  (okW (k0 := kk) (f1 := w_f1) (g3 := w_g3) F sc_find_ways rfl rfl (fun a p _ => w_h1) (fun a p ok _ => w_h3 hg ok) (fun a ok _ => LL.rd_ok ok) (fun sp k hk Fs cdv A outer s H E hr => body_find_ways (F_ready_things.mono hk) m_ready_things k_ready_things b_ready_things (F_joined.mono hk) m_joined k_joined b_joined m_find_ways k_find_ways b_find_ways m_len m_sum Fs cdv A outer s H E hr) x.length).mono (by have := (good_of hg).1; omega)
noncomputable abbrev s_ways_on : Stmt := top 22
theorem sc_ways_on : FnScope ["order", "ways"] ["order"] (defScope s_ways_on) := ⟨rfl, rfl, rfl, by decide +kernel, rfl, by decide +kernel, by decide +kernel⟩
theorem ok_ways_on {kk : Nat} {g1 : Addr} {d1 : FuncData} (F : Fun K "ways_on" "ways_on" s_ways_on f fd) (F_find_ways : ∀ x : List (List Int), goodX x = true → FnOk P w K mg base CX0 kk g1 d1 ["order", "ahead", "ways"] (spW (LL.rdI x) K x (LL.okI x) x.length)) (m_find_ways : mg "find_ways" = some (.ref g1)) (k_find_ways : PySem.W.keepIn K (.ref g1) = true) (b_find_ways : Binds K d1 ["order", "ahead", "ways"] [])
    (x : List (List Int)) (hg : goodX x = true) : FnOk P w K mg base CX0 (kk + 1) f fd ["order"] (spO (LL.rdI x) K x) :=
  okO (Ok := LL.okI x) F sc_ways_on rfl rfl (good_of hg).1 LL.okI_nil fun cdv A outer s H E hr =>
    pss_cons (ps_set (i := 1) sc_ways_on.nd rfl (.inl rfl) pe_dnewT) (pss_cons (ps_expr (pe_call (F_find_ways x hg) hr rfl m_find_ways k_find_ways b_find_ways .nil pass0 (pa_cons (pe_var (i := 0) rfl (.inl rfl)) (pa_cons (pe_tup pa_nil) (pa_cons (pe_var (i := 1) rfl (.inl rfl)) pa_nil))))) (pss_one (ps_ret (pe_var (i := 1) rfl (.inl rfl)))))
noncomputable abbrev s_goings_many : Stmt := top 17
theorem sc_goings_many : FnScope ["order"] ["order"] (defScope s_goings_many) := ⟨rfl, rfl, rfl, by decide +kernel, rfl, by decide +kernel, by decide +kernel⟩
theorem ok_goings_many {kk : Nat} {g1 : Addr} {d1 : FuncData} (F : Fun K "goings_many" "goings_many" s_goings_many f fd) (F_ways_on : ∀ x : List (List Int), goodX x = true → FnOk P w K mg base CX0 kk g1 d1 ["order"] (spO (LL.rdI x) K x)) (m_ways_on : mg "ways_on" = some (.ref g1)) (k_ways_on : PySem.W.keepIn K (.ref g1) = true) (b_ways_on : Binds K d1 ["order"] []) : FnOk P w K mg base CX0 (kk + 1) f fd ["order"] (sp4 K (waysR LL.rdI)) :=
  okM F sc_goings_many rfl rfl fun x hg cdv A outer s H E hr => pss_one (ps_ret (pe_dget (by have := hr.un; show (A.deeper _).units + 1 < cLine; omega) (pe_call (F_ways_on x hg) hr rfl m_ways_on k_ways_on b_ways_on .nil pass0 (pa_cons (pe_var (i := 0) rfl (.inl rfl)) pa_nil)) (pe_tup pa_nil) (fun _ _ => rfl)))
noncomputable abbrev s_one_step_on : Stmt := top 19
theorem sc_one_step_on : FnScope ["order", "begun", "longer", "ahead"] ["order", "begun"] (defScope s_one_step_on) := ⟨rfl, rfl, rfl, by decide +kernel, rfl, by decide +kernel, by decide +kernel⟩
theorem ok_one_step_on {kk : Nat} {g1 : Addr} {d1 : FuncData} (F : Fun K "one_step_on" "one_step_on" s_one_step_on f fd) (F_ready_things : FnOk P w K mg base CX0 kk g1 d1 ["order", "ahead"] (sp4 K LL.f_ready_things)) (m_ready_things : mg "ready_things" = some (.ref g1)) (k_ready_things : PySem.W.keepIn K (.ref g1) = true) (b_ready_things : Binds K d1 ["order", "ahead"] []) : FnOk P w K mg base CX0 (kk + 1) f fd ["order", "begun"] (sp4 K f_one_step_on) := by
  refine fun4 F sc_one_step_on rfl rfl (fun cdv A outer s H E hr => ?_)
  have nd := sc_one_step_on.nd
  exact (seq4 (own4 (i := 2) nd (lst4 nil4))
    (seq4 (for4 rfl PassesOwn.never (walk4 (x4 1)) (name4 (i := 3) nd)
      (last4 (expr4 (extend4 (i := 2) (pxr4 (PF4.pe (comp4 (ls := ["thing"]) (fs := ["ahead"]) (fr := [3]) rfl (walk4 (call4 F_ready_things hr m_ready_things k_ready_things b_ready_things (cons4 (x4 0) (cons4 (x4 3) nil4)))) (fun _ _ _ _ _ _ nd => bname4 (i := 0) nd (by decide)) (fun _ _ _ _ _ _ => noif4) (fun _ _ _ _ _ _ => (add4 (x4 1) (tup4 (cons4 (x4 0) nil4)))))))))))
    (last4 (ret4 (x4 2)))))
noncomputable abbrev s_goings_listed : Stmt := top 18
theorem sc_goings_listed : FnScope ["order", "begun", "step"] ["order"] (defScope s_goings_listed) := ⟨rfl, rfl, rfl, by decide +kernel, rfl, by decide +kernel, by decide +kernel⟩
theorem ok_goings_listed {kk : Nat} {g1 g2 : Addr} {d1 d2 : FuncData} (F : Fun K "goings_listed" "goings_listed" s_goings_listed f fd) (F_one_step_on : FnOk P w K mg base CX0 kk g1 d1 ["order", "begun"] (sp4 K f_one_step_on)) (m_one_step_on : mg "one_step_on" = some (.ref g1)) (k_one_step_on : PySem.W.keepIn K (.ref g1) = true) (b_one_step_on : Binds K d1 ["order", "begun"] []) (F_goings_many : FnOk P w K mg base CX0 kk g2 d2 ["order"] (sp4 K (L7.waysR LL.rdI))) (m_goings_many : mg "goings_many" = some (.ref g2)) (k_goings_many : PySem.W.keepIn K (.ref g2) = true) (b_goings_many : Binds K d2 ["order"] []) {C_TooGreat : Addr} (x_TooGreat : mg "TooGreat" = some (.ref C_TooGreat)) (q_TooGreat : ExcC K C_TooGreat) {t_MOST_LISTED : Tok} (c_MOST_LISTED : mg "MOST_LISTED" = some (.int 200 t_MOST_LISTED)) (m_tuple : mg "tuple" = none) (m_len : mg "len" = none) (m_range : mg "range" = none) : FnOk P w K mg base (CXW P w) (kk + 1) f fd ["order"] (sp5 K mg f_goings_listed) := by
  refine fun5 F sc_goings_listed rfl rfl (fun cdv A outer s H E hr => ?_)
  have nd := sc_goings_listed.nd
  exact (seq4 (ifS4 (gtT4 (call4 F_goings_many hr m_goings_many k_goings_many b_goings_many (cons4 (x4 0) nil4)) (c4 c_MOST_LISTED))
      (last4 (raise5 rfl rfl x_TooGreat q_TooGreat (cons4 s4 nil4)))
      end4)
    (seq4 (set4 (i := 1) nd (PF4.pe (lst4 (cons4 (tup4 nil4) nil4))))
    (seq4 (noxS4 (for4 rfl PassesOwn.never (range14 m_range (len4 m_len (cons4 (x4 0) nil4))) (name4 (i := 2) nd)
      (last4 (set4 (i := 1) nd (call4 F_one_step_on hr m_one_step_on k_one_step_on b_one_step_on (cons4 (x4 0) (cons4 (x4 1) nil4)))))))
    (last4 (ret4 (tuple4 m_tuple (cons4 (x4 1) nil4)))))))
noncomputable abbrev s_l_cell : Stmt := top 25
theorem sc_l_cell : FnScope ["_law_script", "_law_k"] ["_law_script", "_law_k"] (defScope s_l_cell) := ⟨rfl, rfl, rfl, by decide +kernel, rfl, by decide +kernel, by decide +kernel⟩
theorem ok_l_cell {kk : Nat} (F : Fun K "_law_cell" "_law_cell" s_l_cell f fd) (m_len : mg "len" = none) : FnOk P w K mg base CX0 (kk + 1) f fd ["_law_script", "_law_k"] (sp4 K LL.f_l_cell) := by
  refine fun4 F sc_l_cell rfl rfl (fun cdv A outer s H E hr => ?_)
  have nd := sc_l_cell.nd
  exact (seq4 (ifS4 (eqT4 (len4 m_len (cons4 (x4 0) nil4)) i4)
      (last4 (ret4 i4))
      end4)
    (last4 (ret4 (ix4 (x4 0) (mod4 (x4 1) (len4 m_len (cons4 (x4 0) nil4)))))))
noncomputable abbrev s_l_mixed : Stmt := top 26
theorem sc_l_mixed : FnScope ["_law_cell_here", "_law_k", "_law_salt", "_law_one", "_law_two"] ["_law_cell_here", "_law_k", "_law_salt"] (defScope s_l_mixed) := ⟨rfl, rfl, rfl, by decide +kernel, rfl, by decide +kernel, by decide +kernel⟩
theorem ok_l_mixed {kk : Nat} (F : Fun K "_law_mixed" "_law_mixed" s_l_mixed f fd) : FnOk P w K mg base CX0 (kk + 1) f fd ["_law_cell_here", "_law_k", "_law_salt"] (sp4 K LL.f_l_mixed) := by
  refine fun4 F sc_l_mixed rfl rfl (fun cdv A outer s H E hr => ?_)
  have nd := sc_l_mixed.nd
  exact (seq4 (set4 (i := 3) nd (mod4 (mul4 (add4 (add4 (add4 (x4 0) (mul4 (mul4 i4 (x4 1)) (x4 1))) (mul4 i4 (x4 1))) (x4 2)) i4) i4))
    (seq4 (set4 (i := 4) nd (mod4 (add4 (add4 (mul4 (x4 3) (add4 (div4 (x4 3) i4) i4)) (mul4 i4 (x4 1))) (x4 2)) i4))
    (last4 (ret4 (mod4 (mul4 (x4 4) i4) i4)))))
noncomputable abbrev s_l_draws : Stmt := top 27
theorem sc_l_draws : FnScope ["_law_cell_here", "_law_many", "_law_salt", "_law_found", "_law_left", "_law_k"] ["_law_cell_here", "_law_many", "_law_salt"] (defScope s_l_draws) := ⟨rfl, rfl, rfl, by decide +kernel, rfl, by decide +kernel, by decide +kernel⟩
theorem ok_l_draws {kk : Nat} {g1 : Addr} {d1 : FuncData} (F : Fun K "_law_draws" "_law_draws" s_l_draws f fd) (F_l_mixed : FnOk P w K mg base CX0 kk g1 d1 ["_law_cell_here", "_law_k", "_law_salt"] (sp4 K LL.f_l_mixed)) (m_l_mixed : mg "_law_mixed" = some (.ref g1)) (k_l_mixed : PySem.W.keepIn K (.ref g1) = true) (b_l_mixed : Binds K d1 ["_law_cell_here", "_law_k", "_law_salt"] []) (m_range : mg "range" = none) : FnOk P w K mg base CX0 (kk + 1) f fd ["_law_cell_here", "_law_many", "_law_salt"] (sp4 K LL.f_l_draws) := by
  refine fun4 F sc_l_draws rfl rfl (fun cdv A outer s H E hr => ?_)
  have nd := sc_l_draws.nd
  exact (seq4 (own4 (i := 3) nd (lst4 nil4))
    (seq4 (set4 (i := 4) nd i4)
    (seq4 (ifS4 (geT4 (x4 0) (pow4 i4 i4))
      (last4 (set4 (i := 4) nd (x4 0)))
      end4)
    (seq4 (for4 rfl PassesOwn.never (range14 m_range (x4 1)) (name4 (i := 5) nd)
      (last4 (ifS4 (gtT4 (x4 4) i4)
        (seq4 (expr4 (app4 (i := 3) (pxr4 (mod4 (x4 4) i4))))
        (last4 (set4 (i := 4) nd (div4 (x4 4) i4))))
        (last4 (expr4 (app4 (i := 3) (pxr4 (call4 F_l_mixed hr m_l_mixed k_l_mixed b_l_mixed (cons4 (x4 0) (cons4 (x4 5) (cons4 (x4 2) nil4)))))))))))
    (last4 (ret4 (x4 3)))))))
noncomputable abbrev s_l_same : Stmt := top 28
theorem sc_l_same : FnScope ["_law_found", "_law_due"] ["_law_found", "_law_due"] (defScope s_l_same) := ⟨rfl, rfl, rfl, by decide +kernel, rfl, by decide +kernel, by decide +kernel⟩
theorem ok_l_same {kk : Nat} (F : Fun K "_law_same" "_law_same" s_l_same f fd) (m_l_same : mg "_law_same" = some (.ref f)) (k_l_same : PySem.W.keepIn K (.ref f) = true) (b_l_same : Binds K fd ["_law_found", "_law_due"] []) (m_isinstance : mg "isinstance" = none) (m_str : mg "str" = none) (m_int : mg "int" = none) (m_bool : mg "bool" = none) (m_tuple : mg "tuple" = none) (m_len : mg "len" = none) (m_range : mg "range" = none) (m_all : mg "all" = none) : ∀ n : Nat, FnOk P w K mg base CX0 (kk + n) f fd ["_law_found", "_law_due"] (sp4 K (LL.f_l_same n))
  | 0 => none4
  | n + 1 => by
    have F_l_same := ok_l_same (kk := kk) F m_l_same k_l_same b_l_same m_isinstance m_str m_int m_bool m_tuple m_len m_range m_all n
    refine fun4 F sc_l_same rfl rfl (fun cdv A outer s H E hr => ?_)
    have nd := sc_l_same.nd
    exact (seq4 (ifS4 (val4 (isi4 Ty4.t m_isinstance m_tuple PyProof.Rows.boot_tuple (x4 1)))
      (seq4 (ifS4 (PW4.pt (orT4 (notT4 (val4 (isi4 Ty4.t m_isinstance m_tuple PyProof.Rows.boot_tuple (x4 0)))) (or14 (neT4 (len4 m_len (cons4 (x4 0) nil4)) (len4 m_len (cons4 (x4 1) nil4))))))
        (last4 (ret4 b4))
        end4)
      (last4 (ret4 (all4 rfl m_all (cons4 (PF4.pe (comp4 (ls := ["_law_k"]) (fs := ["_law_found", "_law_due"]) (fr := [0, 1]) rfl (range14 m_range (len4 m_len (cons4 (x4 1) nil4))) (fun _ _ _ _ _ _ nd => bname4 (i := 0) nd (by decide)) (fun _ _ _ _ _ _ => noif4) (fun _ _ _ _ _ _ => (call4 F_l_same hr m_l_same k_l_same b_l_same (cons4 (ix4 (x4 1) (x4 0)) (cons4 (ix4 (x4 2) (x4 0)) nil4)))))) nil4)))))
      end4)
    (seq4 (ifS4 (isT4 (x4 1) n4)
      (last4 (ret4 (is4 (x4 0) n4)))
      end4)
    (seq4 (ifS4 (val4 (isi4 Ty4.b m_isinstance m_bool PyProof.Rows.boot_bool (x4 1)))
      (last4 (ret4 (and4 (isi4 Ty4.b m_isinstance m_bool PyProof.Rows.boot_bool (x4 0)) (one4 (eq4 (x4 0) (x4 1))))))
      end4)
    (seq4 (ifS4 (val4 (isi4 Ty4.i m_isinstance m_int PyProof.Rows.boot_int (x4 1)))
      (last4 (ret4 (and4 (isi4 Ty4.i m_isinstance m_int PyProof.Rows.boot_int (x4 0)) (and4 (not4 (isi4 Ty4.b m_isinstance m_bool PyProof.Rows.boot_bool (x4 0))) (one4 (eq4 (x4 0) (x4 1)))))))
      end4)
    (last4 (ret4 (and4 (isi4 Ty4.s m_isinstance m_str PyProof.Rows.boot_str (x4 0)) (one4 (eq4 (x4 0) (x4 1))))))))))
noncomputable abbrev s_l_order : Stmt := top 29
theorem sc_l_order : FnScope ["_law_draws_here", "_law_n", "_law_thick", "_law_rest", "_law_word", "_law_k", "_law_low", "_law_at", "_law_j", "_law_under", "_law_i"] ["_law_draws_here", "_law_n", "_law_thick"] (defScope s_l_order) := ⟨rfl, rfl, rfl, by decide +kernel, rfl, by decide +kernel, by decide +kernel⟩
theorem ok_l_order {kk : Nat} (F : Fun K "_law_order" "_law_order" s_l_order f fd) (m_range : mg "range" = none) (m_sorted : mg "sorted" = none) (m_tuple : mg "tuple" = none) (m_len : mg "len" = none) (m_list : mg "list" = none) : FnOk P w K mg base CX0 (kk + 1) f fd ["_law_draws_here", "_law_n", "_law_thick"] (sp4 K LL.f_l_order) := by
  refine fun4 F sc_l_order rfl rfl (fun cdv A outer s H E hr => ?_)
  have nd := sc_l_order.nd
  have hu : (A.deeper (PyProof.Rows.envOfC "_law_order" (defScope s_l_order) s.heap.objs.size f cdv)).units + 1 < cLine := by have := hr.un; omega
  exact (seq4 (own4 (i := 3) nd (listRange4 rfl m_list m_range (cons4 (x4 1) nil4)))
    (seq4 (own4 (i := 4) nd (lst4 nil4))
    (seq4 (for4 rfl PassesOwn.never (range14 m_range (x4 1)) (name4 (i := 5) nd)
      (last4 (expr4 (app4 (i := 4) (pop4 (i := 3) (px4 (mod4 (ix4 (x4 0) (x4 5)) (len4 m_len (cons4 (x4 3) nil4)))))))))
    (seq4 (ownDict4 (i := 6) nd)
    (seq4 (set4 (i := 7) nd (x4 1))
    (seq4 (for4 rfl PassesOwn.never (range14 m_range (x4 1)) (name4 (i := 8) nd)
      (seq4 (set4 (i := 9) nd (PF4.pe (lst4 nil4)))
      (seq4 (for4 rfl PassesOwn.never (range14 m_range (x4 8)) (name4 (i := 10) nd)
        (seq4 (ifS4 (ltT4 (mod4 (ix4 (x4 0) (x4 7)) i4) (x4 2))
          (last4 (setF4 (i := 9) nd (catN4 (x4 9) (PF4.pe (comp4 (ls := ["_law_a"]) (fs := ["_law_under"]) (fr := [9]) rfl (walk4 (add4 (ixD4 hu (x4 6) (ix4 (x4 4) (x4 10))) (PF4.pe (lst4 (cons4 (ix4 (x4 4) (x4 10)) nil4))))) (fun _ _ _ _ _ _ nd => bname4 (i := 0) nd (by decide)) (fun _ _ _ _ _ _ => oneif4 (ninT4 (x4 0) (x4 1))) (fun _ _ _ _ _ _ => (x4 0)))))))
          end4)
        (last4 (set4 (i := 7) nd (add4 (x4 7) i4)))))
      (last4 (putN4 (i := 6) hu (pxr4 (x4 9)) (ix4 (x4 4) (x4 8)))))))
    (last4 (ret4 (tuple4 m_tuple (cons4 (PF4.pe (comp4 (ls := ["_law_b"]) (fs := ["_law_low"]) (fr := [6]) rfl (range14 m_range (x4 1)) (fun _ _ _ _ _ _ nd => bname4 (i := 0) nd (by decide)) (fun _ _ _ _ _ _ => noif4) (fun _ _ _ _ _ _ => (tuple4 m_tuple (cons4 (PF4.pe (sorted4 m_sorted (cons4 (ixD4 hu (x4 1) (x4 0)) nil4))) nil4))))) nil4))))))))))
noncomputable abbrev s_l_drawn : Stmt := top 30
theorem sc_l_drawn : FnScope ["_law_script", "_law_k", "_law_most", "_law_salt", "_law_head", "_law_n", "_law_draws_here"] ["_law_script", "_law_k", "_law_most", "_law_salt"] (defScope s_l_drawn) := ⟨rfl, rfl, rfl, by decide +kernel, rfl, by decide +kernel, by decide +kernel⟩
theorem ok_l_drawn {kk : Nat} {g1 g2 g3 : Addr} {d1 d2 d3 : FuncData} (F : Fun K "_law_drawn" "_law_drawn" s_l_drawn f fd) (F_l_order : FnOk P w K mg base CX0 kk g1 d1 ["_law_draws_here", "_law_n", "_law_thick"] (sp4 K LL.f_l_order)) (m_l_order : mg "_law_order" = some (.ref g1)) (k_l_order : PySem.W.keepIn K (.ref g1) = true) (b_l_order : Binds K d1 ["_law_draws_here", "_law_n", "_law_thick"] []) (F_l_draws : FnOk P w K mg base CX0 kk g2 d2 ["_law_cell_here", "_law_many", "_law_salt"] (sp4 K LL.f_l_draws)) (m_l_draws : mg "_law_draws" = some (.ref g2)) (k_l_draws : PySem.W.keepIn K (.ref g2) = true) (b_l_draws : Binds K d2 ["_law_cell_here", "_law_many", "_law_salt"] []) (F_l_cell : FnOk P w K mg base CX0 kk g3 d3 ["_law_script", "_law_k"] (sp4 K LL.f_l_cell)) (m_l_cell : mg "_law_cell" = some (.ref g3)) (k_l_cell : PySem.W.keepIn K (.ref g3) = true) (b_l_cell : Binds K d3 ["_law_script", "_law_k"] []) : FnOk P w K mg base CX0 (kk + 1) f fd ["_law_script", "_law_k", "_law_most", "_law_salt"] (sp4 K LL.f_l_drawn) := by
  refine fun4 F sc_l_drawn rfl rfl (fun cdv A outer s H E hr => ?_)
  have nd := sc_l_drawn.nd
  exact (seq4 (set4 (i := 4) nd (call4 F_l_draws hr m_l_draws k_l_draws b_l_draws (cons4 (call4 F_l_cell hr m_l_cell k_l_cell b_l_cell (cons4 (x4 0) (cons4 (x4 1) nil4))) (cons4 i4 (cons4 (x4 3) nil4)))))
    (seq4 (set4 (i := 5) nd (mod4 (ix4 (x4 4) i4) (add4 (x4 2) i4)))
    (seq4 (set4 (i := 6) nd (call4 F_l_draws hr m_l_draws k_l_draws b_l_draws (cons4 (call4 F_l_cell hr m_l_cell k_l_cell b_l_cell (cons4 (x4 0) (cons4 (add4 (x4 1) i4) nil4))) (cons4 (add4 (x4 5) (div4 (mul4 (x4 5) (sub4 (x4 5) i4)) i4)) (cons4 (add4 (x4 3) i4) nil4)))))
    (last4 (ret4 (call4 F_l_order hr m_l_order k_l_order b_l_order (cons4 (x4 6) (cons4 (x4 5) (cons4 (ix4 (PF4.pe (lst4 (cons4 i4 (cons4 i4 (cons4 i4 (cons4 i4 (cons4 i4 (cons4 i4 (cons4 i4 (cons4 i4 nil4)))))))))) (mod4 (ix4 (x4 4) i4) i4)) nil4)))))))))
noncomputable abbrev s_l_goings : Stmt := top 31
theorem sc_l_goings : FnScope ["_law_order_here", "_law_words", "_law_step", "_law_longer", "_law_word", "_law_b"] ["_law_order_here"] (defScope s_l_goings) := ⟨rfl, rfl, rfl, by decide +kernel, rfl, by decide +kernel, by decide +kernel⟩
theorem ok_l_goings {kk : Nat} (F : Fun K "_law_goings" "_law_goings" s_l_goings f fd) (m_len : mg "len" = none) (m_range : mg "range" = none) (m_all : mg "all" = none) : FnOk P w K mg base CX0 (kk + 1) f fd ["_law_order_here"] (sp4 K LL.f_l_goings) := by
  refine fun4 F sc_l_goings rfl rfl (fun cdv A outer s H E hr => ?_)
  have nd := sc_l_goings.nd
  exact (seq4 (set4 (i := 1) nd (PF4.pe (lst4 (cons4 (tup4 nil4) nil4))))
    (seq4 (for4 rfl PassesOwn.never (range14 m_range (len4 m_len (cons4 (x4 0) nil4))) (name4 (i := 2) nd)
      (seq4 (own4 (i := 3) nd (lst4 nil4))
      (seq4 (for4 rfl PassesOwn.never (walk4 (x4 1)) (name4 (i := 4) nd)
        (last4 (for4 rfl PassesOwn.never (range14 m_range (len4 m_len (cons4 (x4 0) nil4))) (name4 (i := 5) nd)
          (last4 (ifS4 (PW4.pt (andT4 (ninT4 (x4 5) (x4 4)) (and14 (val4 (all4 rfl m_all (cons4 (PF4.pe (comp4 (ls := ["_law_a"]) (fs := ["_law_word"]) (fr := [4]) rfl (walk4 (ix4 (x4 0) (x4 5))) (fun _ _ _ _ _ _ nd => bname4 (i := 0) nd (by decide)) (fun _ _ _ _ _ _ => noif4) (fun _ _ _ _ _ _ => (in4 (x4 0) (x4 1))))) nil4))))))
            (last4 (expr4 (app4 (i := 3) (pxr4 (add4 (x4 4) (tup4 (cons4 (x4 5) nil4)))))))
            end4)))))
      (last4 (frzS4 3 (set4 (i := 1) nd (x4 3)))))))
    (last4 (ret4 (x4 1)))))
noncomputable abbrev s_l_refusal : Stmt := top 32
theorem sc_l_refusal : FnScope ["_law_kinds", "_law_names"] ["_law_kinds"] (defScope s_l_refusal) := ⟨rfl, rfl, rfl, by decide +kernel, rfl, by decide +kernel, by decide +kernel⟩
theorem ok_l_refusal {kk : Nat} (F : Fun K "_law_refusal" "_law_refusal" s_l_refusal f fd) : FnOk P w K mg base CX0 (kk + 1) f fd ["_law_kinds"] (sp4 K f_l_refusal) := by
  refine fun4 F sc_l_refusal rfl rfl (fun cdv A outer s H E hr => ?_)
  have nd := sc_l_refusal.nd
  exact (seq4 (set4 (i := 1) nd s4)
    (seq4 (set4 (i := 1) nd (add4 (x4 1) s4))
    (seq4 (ifS4 (PW4.pt (orT4 (neT4 (countB4 (x4 0) b4) i4) (or14 (notT4 (val4 (ix4 (x4 0) i4))))))
      (last4 (ret4 s4))
      end4)
    (last4 (ret4 (ix4 (PF4.pe (split4 (x4 1) s4)) (indexB4 (x4 0) b4)))))))
noncomputable abbrev s_l_chains : Stmt := top 33
theorem sc_l_chains : FnScope ["_law_sizes", "_law_draws_here", "_law_rest", "_law_found", "_law_at", "_law_size", "_law_below", "_law_step", "_law_thing"] ["_law_sizes", "_law_draws_here"] (defScope s_l_chains) := ⟨rfl, rfl, rfl, by decide +kernel, rfl, by decide +kernel, by decide +kernel⟩
theorem ok_l_chains {kk : Nat} (F : Fun K "_law_chains" "_law_chains" s_l_chains f fd) (m_tuple : mg "tuple" = none) (m_range : mg "range" = none) (m_sorted : mg "sorted" = none) (m_len : mg "len" = none) (m_sum : mg "sum" = none) (m_list : mg "list" = none) : FnOk P w K mg base CX0 (kk + 1) f fd ["_law_sizes", "_law_draws_here"] (sp4 K f_l_chains) := by
  refine fun4 F sc_l_chains rfl rfl (fun cdv A outer s H E hr => ?_)
  have nd := sc_l_chains.nd
  exact (seq4 (own4 (i := 2) nd (listRange4 rfl m_list m_range (cons4 (sumT4 rfl m_sum (cons4 (x4 0) nil4)) nil4)))
    (seq4 (own4 (i := 3) nd (repL4 (PF4.pe (lst4 (cons4 (tup4 nil4) nil4))) (sumT4 rfl m_sum (cons4 (x4 0) nil4))))
    (seq4 (set4 (i := 4) nd i4)
    (seq4 (for4 rfl PassesOwn.never (walk4 (x4 0)) (name4 (i := 5) nd)
      (seq4 (own4 (i := 6) nd (lst4 nil4))
      (last4 (for4 rfl PassesOwn.never (range14 m_range (x4 5)) (name4 (i := 7) nd)
        (seq4 (setX4 (i := 8) nd (pop4 (i := 2) (px4 (mod4 (ix4 (x4 1) (x4 4)) (len4 m_len (cons4 (x4 2) nil4))))))
        (seq4 (put4 (i := 3) (px4 (tuple4 m_tuple (cons4 (PF4.pe (sorted4 m_sorted (cons4 (x4 6) nil4))) nil4))) (x4 8))
        (seq4 (expr4 (app4 (i := 6) (pxr4 (x4 8))))
        (last4 (set4 (i := 4) nd (add4 (x4 4) i4))))))))))
    (last4 (ret4 (tuple4 m_tuple (cons4 (x4 3) nil4))))))))
noncomputable abbrev s_l_two_hundred : Stmt := top 34
theorem sc_l_two_hundred : FnScope ["_law_draws_here", "_law_low", "_law_rows", "_law_rest", "_law_word", "_law_at", "_law_found", "_law_b"] ["_law_draws_here"] (defScope s_l_two_hundred) := ⟨rfl, rfl, rfl, by decide +kernel, rfl, by decide +kernel, by decide +kernel⟩
theorem ok_l_two_hundred {kk : Nat} (F : Fun K "_law_two_hundred" "_law_two_hundred" s_l_two_hundred f fd) (m_tuple : mg "tuple" = none) (m_range : mg "range" = none) (m_sorted : mg "sorted" = none) (m_len : mg "len" = none) (m_list : mg "list" = none) : FnOk P w K mg base CX0 (kk + 1) f fd ["_law_draws_here"] (sp4 K f_l_two_hundred) := by
  refine fun4 F sc_l_two_hundred rfl rfl (fun cdv A outer s H E hr => ?_)
  have nd := sc_l_two_hundred.nd
  exact (QS.un (qSeq (qSet (i := 1) nd (qTup (qCons qI (qCons qI (qCons qI (qCons qI (qCons qI qNil)))))))
    (qSeq (qSet (i := 2) nd (qLst (qCons (qTup qNil) (qCons (qTup (qCons qI qNil)) (qCons (qTup (qCons qI qNil)) (qCons (qTup qNil) (qCons (qTup qNil) (qCons (qX 1) (qCons (qX 1) (qCons (qAdd (qX 1) (qTup (qCons qI (qCons qI qNil)))) (qCons (qAdd (qX 1) (qTup (qCons qI qNil))) qNil)))))))))))
    (qSeq (Q1.mk (own4 (i := 3) nd (listRange4 rfl m_list m_range (cons4 i4 nil4))))
    (qSeq (Q1.mk (own4 (i := 4) nd (lst4 nil4)))
    (qSeq (Q1.mk (for4 rfl PassesOwn.never (range14 m_range i4) (name4 (i := 5) nd)
      (last4 (expr4 (app4 (i := 4) (pop4 (i := 3) (px4 (mod4 (ix4 (x4 0) (x4 5)) (len4 m_len (cons4 (x4 3) nil4))))))))))
    (qSeq (Q1.mk (own4 (i := 6) nd (repL4 (PF4.pe (lst4 (cons4 (tup4 nil4) nil4))) i4)))
    (qSeq (Q1.mk (for4 rfl PassesOwn.never (range14 m_range i4) (name4 (i := 7) nd)
      (last4 (put4 (i := 6) (px4 (tuple4 m_tuple (cons4 (PF4.pe (sorted4 m_sorted (cons4 (PF4.pe (comp4 (ls := ["_law_a"]) (fs := ["_law_word"]) (fr := [4]) rfl (walk4 (ix4 (x4 2) (x4 7))) (fun _ _ _ _ _ _ nd => bname4 (i := 0) nd (by decide)) (fun _ _ _ _ _ _ => noif4) (fun _ _ _ _ _ _ => (ix4 (x4 1) (x4 0))))) nil4))) nil4))) (ix4 (x4 4) (x4 7))))))
    (qLast (Q1.mk (ret4 (tuple4 m_tuple (cons4 (x4 6) nil4)))))))))))))
noncomputable abbrev s_l_asked : Stmt := top 35
theorem sc_l_asked : FnScope ["_law_order_here", "_law_found", "_law_kinds", "e"] ["_law_order_here"] (defScope s_l_asked) := ⟨rfl, rfl, rfl, by decide +kernel, rfl, by decide +kernel, by decide +kernel⟩
theorem ok_l_asked {kk : Nat} {g1 g2 : Addr} {d1 d2 : FuncData} (F : Fun K "_law_asked" "_law_asked" s_l_asked f fd) (F_l_refusal : FnOk P w K mg base CX0 kk g1 d1 ["_law_kinds"] (sp4 K f_l_refusal)) (m_l_refusal : mg "_law_refusal" = some (.ref g1)) (k_l_refusal : PySem.W.keepIn K (.ref g1) = true) (b_l_refusal : Binds K d1 ["_law_kinds"] []) (F_goings_listed : FnOk P w K mg base (CXW P w) kk g2 d2 ["order"] (sp5 K mg f_goings_listed)) (m_goings_listed : mg "goings_listed" = some (.ref g2)) (k_goings_listed : PySem.W.keepIn K (.ref g2) = true) (b_goings_listed : Binds K d2 ["order"] []) {C_Looped C_NoFilling C_NoGoing C_NoLine C_NoName C_NoNumber C_NoOrder C_NoRow C_NoShape C_NoThing C_NotForest C_NotLoose C_RiseError C_TooGreat : Addr} (x_Looped : mg "Looped" = some (.ref C_Looped)) (x_NoFilling : mg "NoFilling" = some (.ref C_NoFilling)) (x_NoGoing : mg "NoGoing" = some (.ref C_NoGoing)) (x_NoLine : mg "NoLine" = some (.ref C_NoLine)) (x_NoName : mg "NoName" = some (.ref C_NoName)) (x_NoNumber : mg "NoNumber" = some (.ref C_NoNumber)) (x_NoOrder : mg "NoOrder" = some (.ref C_NoOrder)) (x_NoRow : mg "NoRow" = some (.ref C_NoRow)) (x_NoShape : mg "NoShape" = some (.ref C_NoShape)) (x_NoThing : mg "NoThing" = some (.ref C_NoThing)) (x_NotForest : mg "NotForest" = some (.ref C_NotForest)) (x_NotLoose : mg "NotLoose" = some (.ref C_NotLoose)) (x_RiseError : mg "RiseError" = some (.ref C_RiseError)) (x_TooGreat : mg "TooGreat" = some (.ref C_TooGreat)) (e1 : PySem.W.subIn K (.ref C_RiseError) (.type "BaseException") = some true) (e2 : PySem.W.isClsIn K C_RiseError = true) (e3 : PySem.W.typeIn K (.ref C_RiseError) = some (.type "type")) (qq_TooGreat : ExcQ K C_TooGreat) (sVE_TooGreat : PySem.W.subIn K (.ref C_TooGreat) (.type "ValueError") = some true) (d_TooGreat_NoLine : NotSub K C_TooGreat C_NoLine) (d_TooGreat_NoName : NotSub K C_TooGreat C_NoName) (d_TooGreat_NoShape : NotSub K C_TooGreat C_NoShape) (d_TooGreat_NotForest : NotSub K C_TooGreat C_NotForest) (d_TooGreat_NotLoose : NotSub K C_TooGreat C_NotLoose) (d_TooGreat_NoFilling : NotSub K C_TooGreat C_NoFilling) (d_TooGreat_NoRow : NotSub K C_TooGreat C_NoRow) (d_TooGreat_NoGoing : NotSub K C_TooGreat C_NoGoing) (d_TooGreat_NoNumber : NotSub K C_TooGreat C_NoNumber) (d_TooGreat_NoOrder : NotSub K C_TooGreat C_NoOrder) (d_TooGreat_Looped : NotSub K C_TooGreat C_Looped) (d_TooGreat_NoThing : NotSub K C_TooGreat C_NoThing) (e4_TooGreat : PySem.W.subIn K (.ref C_TooGreat) (.ref C_RiseError) = some true) (m_len : mg "len" = none) (m_isinstance : mg "isinstance" = none) (m_ValueError : mg "ValueError" = none) : FnOk P w K mg base CX0 (kk + 1) f fd ["_law_order_here"] (sp4 K f_l_asked) := by
  refine fun4 F sc_l_asked rfl rfl (fun cdv A outer s H E hr => ?_)
  have nd := sc_l_asked.nd
  exact (seq4 (set4 (i := 1) nd n4)
    (seq4 (set4 (i := 2) nd (PF4.pe (lst4 nil4)))
    (tryN5 (i := 3) rfl rfl x_RiseError nd (fun pn xe => (last4 (setR5 (i := 1) nd (call5 F_goings_listed hr m_goings_listed k_goings_listed b_goings_listed (cons4 (x4 0) nil4)) (callR5 rfl F_goings_listed hr m_goings_listed k_goings_listed b_goings_listed (cons4 (x4 0) nil4)))))
    (seq4 (ifS4 (gtT4 (len4 m_len (cons4 (x4 2) nil4)) i4)
      (last4 (ret4 (tup4 (cons4 s4 (cons4 (call4 F_l_refusal hr m_l_refusal k_l_refusal b_l_refusal (cons4 (x4 2) nil4)) nil4)))))
      end4)
    (last4 (ret4 (tup4 (cons4 s4 (cons4 (x4 1) nil4)))))) (fun c ρ1 h => by
      by_cases hc0 : c = "TooGreat"
      · subst hc0
        rw [if_pos rfl] at h
        cases h
        refine ⟨C_TooGreat, fun e => (sSet 2 (eLst (aCons (eIsE "TooGreat" e false 3) (aCons (eIsE "TooGreat" e false 3) (aCons (eIsE "TooGreat" e false 3) (aCons (eIsE "TooGreat" e false 3) (aCons (eIsE "TooGreat" e true 3) (aCons (eIsE "TooGreat" e false 3) (aCons (eIsE "TooGreat" e false 3) (aCons (eIsE "TooGreat" e false 3) (aCons (eIsE "TooGreat" e false 3) (aCons (eIsE "TooGreat" e false 3) (aCons (eIsE "TooGreat" e false 3) (aCons (eIsE "TooGreat" e false 3) (aCons (eIsE "TooGreat" e false 3) (aCons (eIsE "TooGreat" e true 3) aNil)))))))))))))))), fun e => [.no, .no, .ro (.lst [.bl false, .bl false, .bl false, .bl false, .bl true, .bl false, .bl false, .bl false, .bl false, .bl false, .bl false, .bl false, .bl false, .bl true]), .ro (.exc "TooGreat" e)], x_TooGreat, exm_of e1 e2 e3 e4_TooGreat, fun e => ⟨by
          show (sSet 2 (eLst (aCons (eIsE "TooGreat" e false 3) (aCons (eIsE "TooGreat" e false 3) (aCons (eIsE "TooGreat" e false 3) (aCons (eIsE "TooGreat" e false 3) (aCons (eIsE "TooGreat" e true 3) (aCons (eIsE "TooGreat" e false 3) (aCons (eIsE "TooGreat" e false 3) (aCons (eIsE "TooGreat" e false 3) (aCons (eIsE "TooGreat" e false 3) (aCons (eIsE "TooGreat" e false 3) (aCons (eIsE "TooGreat" e false 3) (aCons (eIsE "TooGreat" e false 3) (aCons (eIsE "TooGreat" e false 3) (aCons (eIsE "TooGreat" e true 3) aNil)))))))))))))))) ((List.replicate 4 Sv.no).set 3 (.ro (.exc "TooGreat" e))) = .nx _
          simp only [sSeq, sRet, sSet, eVar, eC, eAnd, eOr, eNot, eTup, aNil, aCons, eIsE, boolM, szL, vAll, vRd, Sv.all, Sv.rd, List.map_cons, List.map_nil, List.getElem?_cons_zero, List.getElem?_cons_succ, Option.join_some, Option.join_none, Option.bind_some, Option.map_some, List.set_cons_zero, List.set_cons_succ, List.replicate_succ, List.replicate_zero, and_self, if_true, reduceIte, Bool.false_eq_true, Bool.not_true, Bool.not_false, List.length_cons, List.length_nil, Nat.reduceAdd, Nat.reduceLeDiff, eCall, mOpt, runF, startS, eLst, eBin, addM, eCB, tupleM, List.nil_append, List.cons_append, List.append_nil, List.length_append, Nat.reduceSub], rfl, fun d z => by cases z⟩, fun e oe pn hoe => ?_⟩
        have cg : ∀ {Y : Cx}, Caught (hcx Y (some (.ref e)) (pn ++ [(e, oe)])) e C_TooGreat := fun {Y} => ⟨oe, List.mem_append_right _ List.mem_cons_self, hoe⟩
        exact (last4 (set4 (i := 2) nd (PF4.pe (lst4 (cons4 (isE4 cg qq_TooGreat m_isinstance x_NoThing d_TooGreat_NoThing.one) (cons4 (isE4 cg qq_TooGreat m_isinstance x_Looped d_TooGreat_Looped.one) (cons4 (isE4 cg qq_TooGreat m_isinstance x_NoOrder d_TooGreat_NoOrder.one) (cons4 (isE4 cg qq_TooGreat m_isinstance x_NoNumber d_TooGreat_NoNumber.one) (cons4 (isE4 cg qq_TooGreat m_isinstance x_TooGreat kit_self) (cons4 (isE4 cg qq_TooGreat m_isinstance x_NoGoing d_TooGreat_NoGoing.one) (cons4 (isE4 cg qq_TooGreat m_isinstance x_NoRow d_TooGreat_NoRow.one) (cons4 (isE4 cg qq_TooGreat m_isinstance x_NoFilling d_TooGreat_NoFilling.one) (cons4 (isE4 cg qq_TooGreat m_isinstance x_NotLoose d_TooGreat_NotLoose.one) (cons4 (isE4 cg qq_TooGreat m_isinstance x_NotForest d_TooGreat_NotForest.one) (cons4 (isE4 cg qq_TooGreat m_isinstance x_NoShape d_TooGreat_NoShape.one) (cons4 (isE4 cg qq_TooGreat m_isinstance x_NoName d_TooGreat_NoName.one) (cons4 (isE4 cg qq_TooGreat m_isinstance x_NoLine d_TooGreat_NoLine.one) (cons4 (isET4 cg qq_TooGreat m_isinstance m_ValueError PyProof.Rows.Boot.«ValueError» (kitT_of (by decide +kernel) sVE_TooGreat)) nil4))))))))))))))))))
      rw [if_neg hc0] at h
      cases h))))
noncomputable abbrev s_law : Stmt := top 36
theorem sc_law : FnScope ["_law_script", "_law_head", "_law_order_here", "_law_menu", "_law_draws_here", "_law_words", "_law_due", "_law_turn"] ["_law_script"] (defScope s_law) := ⟨rfl, rfl, rfl, by decide +kernel, rfl, by decide +kernel, by decide +kernel⟩
theorem ok_law {kk : Nat} {g1 g2 g3 g4 g5 g6 g7 g8 g9 : Addr} {d1 d2 d3 d4 d5 d6 d7 d8 d9 : FuncData} (F : Fun K "law" "law" s_law f fd) (F_l_same : FnOk P w K mg base CX0 kk g1 d1 ["_law_found", "_law_due"] (sp4 K (LL.f_l_same 6))) (m_l_same : mg "_law_same" = some (.ref g1)) (k_l_same : PySem.W.keepIn K (.ref g1) = true) (b_l_same : Binds K d1 ["_law_found", "_law_due"] []) (F_l_asked : FnOk P w K mg base CX0 kk g2 d2 ["_law_order_here"] (sp4 K f_l_asked)) (m_l_asked : mg "_law_asked" = some (.ref g2)) (k_l_asked : PySem.W.keepIn K (.ref g2) = true) (b_l_asked : Binds K d2 ["_law_order_here"] []) (F_goings_many : FnOk P w K mg base CX0 kk g3 d3 ["order"] (sp4 K (L7.waysR LL.rdI))) (m_goings_many : mg "goings_many" = some (.ref g3)) (k_goings_many : PySem.W.keepIn K (.ref g3) = true) (b_goings_many : Binds K d3 ["order"] []) (F_l_goings : FnOk P w K mg base CX0 kk g4 d4 ["_law_order_here"] (sp4 K LL.f_l_goings)) (m_l_goings : mg "_law_goings" = some (.ref g4)) (k_l_goings : PySem.W.keepIn K (.ref g4) = true) (b_l_goings : Binds K d4 ["_law_order_here"] []) (F_l_chains : FnOk P w K mg base CX0 kk g5 d5 ["_law_sizes", "_law_draws_here"] (sp4 K f_l_chains)) (m_l_chains : mg "_law_chains" = some (.ref g5)) (k_l_chains : PySem.W.keepIn K (.ref g5) = true) (b_l_chains : Binds K d5 ["_law_sizes", "_law_draws_here"] []) (F_l_two_hundred : FnOk P w K mg base CX0 kk g6 d6 ["_law_draws_here"] (sp4 K f_l_two_hundred)) (m_l_two_hundred : mg "_law_two_hundred" = some (.ref g6)) (k_l_two_hundred : PySem.W.keepIn K (.ref g6) = true) (b_l_two_hundred : Binds K d6 ["_law_draws_here"] []) (F_l_draws : FnOk P w K mg base CX0 kk g7 d7 ["_law_cell_here", "_law_many", "_law_salt"] (sp4 K LL.f_l_draws)) (m_l_draws : mg "_law_draws" = some (.ref g7)) (k_l_draws : PySem.W.keepIn K (.ref g7) = true) (b_l_draws : Binds K d7 ["_law_cell_here", "_law_many", "_law_salt"] []) (F_l_cell : FnOk P w K mg base CX0 kk g8 d8 ["_law_script", "_law_k"] (sp4 K LL.f_l_cell)) (m_l_cell : mg "_law_cell" = some (.ref g8)) (k_l_cell : PySem.W.keepIn K (.ref g8) = true) (b_l_cell : Binds K d8 ["_law_script", "_law_k"] []) (F_l_drawn : FnOk P w K mg base CX0 kk g9 d9 ["_law_script", "_law_k", "_law_most", "_law_salt"] (sp4 K LL.f_l_drawn)) (m_l_drawn : mg "_law_drawn" = some (.ref g9)) (k_l_drawn : PySem.W.keepIn K (.ref g9) = true) (b_l_drawn : Binds K d9 ["_law_script", "_law_k", "_law_most", "_law_salt"] []) (m_range : mg "range" = none) (m_len : mg "len" = none) (m_tuple : mg "tuple" = none) : FnOk P w K mg base CX0 (kk + 1) f fd ["_law_script"] (sp4 K f_law) := by
  refine fun4 F sc_law rfl rfl (fun cdv A outer s H E hr => ?_)
  have nd := sc_law.nd
  exact (QS.un (qSeq (Q1.mk (set4 (i := 1) nd (call4 F_l_draws hr m_l_draws k_l_draws b_l_draws (cons4 (call4 F_l_cell hr m_l_cell k_l_cell b_l_cell (cons4 (x4 0) (cons4 i4 nil4))) (cons4 i4 (cons4 i4 nil4))))))
    (qSeq (Q1.mk (set4 (i := 2) nd (call4 F_l_drawn hr m_l_drawn k_l_drawn b_l_drawn (cons4 (x4 0) (cons4 i4 (cons4 i4 (cons4 i4 nil4)))))))
    (qSeq (qIf (eqT4 (mod4 (ix4 (x4 1) i4) i4) i4)
      (qSeq (qSet (i := 3) nd (qLst (qCons (qTup (qCons qI (qCons qI (qCons qI qNil)))) (qCons (qTup (qCons qI (qCons qI qNil))) (qCons (qTup (qCons qI (qCons qI qNil))) (qCons (qTup (qCons qI (qCons qI (qCons qI (qCons qI qNil))))) (qCons (qTup (qCons qI (qCons qI (qCons qI qNil)))) (qCons (qTup (qCons qI (qCons qI (qCons qI qNil)))) (qCons (qTup (qCons qI (qCons qI (qCons qI qNil)))) (qCons (qTup (qCons qI (qCons qI (qCons qI qNil)))) (qCons (qTup (qCons qI (qCons qI (qCons qI qNil)))) qNil)))))))))))
      (qSeq (qSet (i := 3) nd (qAdd (qX 3) (qLst (qCons (qTup (qCons qI (qCons qI (qCons qI qNil)))) (qCons (qTup (qCons qI (qCons qI (qCons qI qNil)))) (qCons (qTup (qCons qI (qCons qI (qCons qI (qCons qI qNil))))) (qCons (qTup (qCons qI (qCons qI (qCons qI qNil)))) (qCons (qTup (qCons qI (qCons qI (qCons qI (qCons qI qNil))))) (qCons (qTup (qCons qI (qCons qI qNil))) (qCons (qTup (qCons qI (qCons qI (qCons qI qNil)))) qNil))))))))))
      (qSeq (Q1.mk (set4 (i := 4) nd (call4 F_l_draws hr m_l_draws k_l_draws b_l_draws (cons4 (call4 F_l_cell hr m_l_cell k_l_cell b_l_cell (cons4 (x4 0) (cons4 i4 nil4))) (cons4 i4 (cons4 i4 nil4))))))
      (qSeq (Q1.mk (set4 (i := 2) nd (call4 F_l_two_hundred hr m_l_two_hundred k_l_two_hundred b_l_two_hundred (cons4 (x4 4) nil4))))
      (qLast (Q1.mk (ifS4 (ltT4 (mod4 (ix4 (x4 1) i4) i4) i4)
        (last4 (set4 (i := 2) nd (call4 F_l_chains hr m_l_chains k_l_chains b_l_chains (cons4 (ix4 (x4 3) (mod4 (ix4 (x4 1) i4) i4)) (cons4 (x4 4) nil4)))))
        end4)))))))
      (QS.mk end4))
    (qSeq (Q1.mk (set4 (i := 5) nd (tuple4 m_tuple (cons4 (call4 F_l_goings hr m_l_goings k_l_goings b_l_goings (cons4 (x4 2) nil4)) nil4))))
    (qSeq (Q1.mk (set4 (i := 6) nd (tup4 (cons4 s4 (cons4 (x4 5) nil4)))))
    (qSeq (Q1.mk (ifS4 (gtT4 (len4 m_len (cons4 (x4 5) nil4)) i4)
      (last4 (set4 (i := 6) nd (tup4 (cons4 s4 (cons4 s4 nil4)))))
      end4))
    (qSeq (Q1.mk (for4 rfl PassesOwn.never (range14 m_range i4) (name4 (i := 7) nd)
      (last4 (ifS4 (PW4.pt (orT4 (notT4 (val4 (call4 F_l_same hr m_l_same k_l_same b_l_same (cons4 (call4 F_goings_many hr m_goings_many k_goings_many b_goings_many (cons4 (x4 2) nil4)) (cons4 (len4 m_len (cons4 (x4 5) nil4)) nil4))))) (or14 (notT4 (val4 (call4 F_l_same hr m_l_same k_l_same b_l_same (cons4 (call4 F_l_asked hr m_l_asked k_l_asked b_l_asked (cons4 (x4 2) nil4)) (cons4 (x4 6) nil4))))))))
        (last4 (ret4 b4))
        end4))))
    (qLast (Q1.mk (ret4 b4)))))))))))
end
theorem len_is1 : ∀ (us : List Value), us.length = 1 → ∃ a0, us = [a0]
  | [a0], _ => ⟨a0, rfl⟩
theorem len_is2 : ∀ (us : List Value), us.length = 2 → ∃ a0 a1, us = [a0, a1]
  | [a0, a1], _ => ⟨a0, a1, rfl⟩
theorem len_is3 : ∀ (us : List Value), us.length = 3 → ∃ a0 a1 a2, us = [a0, a1, a2]
  | [a0, a1, a2], _ => ⟨a0, a1, a2, rfl⟩
theorem len_is4 : ∀ (us : List Value), us.length = 4 → ∃ a0 a1 a2 a3, us = [a0, a1, a2, a3]
  | [a0, a1, a2, a3], _ => ⟨a0, a1, a2, a3, rfl⟩
theorem all_mk {l : PySem.W.OpenLaw} {w : World} {K : PySem.W.Frag} {h : Heap} {mg : Str → Option Value} {fa f1 f2 f3 f4 f5 f6 f7 f8 f9 f10 f11 f12 f13 f14 f15 f16 f17 f18 f19 : Addr} (X : K.In h) (G : h.Ns mainGlobals mg) (hfa : mg "law" = some (.ref fa))
    {od1 an1 od2 an2 od3 an3 od4 an4 od5 an5 od6 an6 od7 an7 od8 an8 od9 an9 od10 an10 od11 an11 od12 an12 od13 an13 od14 an14 od15 an15 od16 an16 od17 an17 od18 an18 od19 an19 : Option Addr} {sl1 sl2 sl3 sl4 sl5 sl6 sl7 sl8 sl9 sl10 sl11 sl12 sl13 sl14 sl15 sl16 sl17 sl18 sl19 : Array (Option Value)}
    {oc1 kV1 dc1 pm1 cd1 ct1 oc2 kV2 dc2 pm2 cd2 ct2 oc3 kV3 dc3 pm3 cd3 ct3 oc4 kV4 dc4 pm4 cd4 ct4 oc5 kV5 dc5 pm5 cd5 ct5 oc6 kV6 dc6 pm6 cd6 ct6 oc7 kV7 dc7 pm7 cd7 ct7 oc8 kV8 dc8 pm8 cd8 ct8 oc9 kV9 dc9 pm9 cd9 ct9 oc10 kV10 dc10 pm10 cd10 ct10 oc11 kV11 dc11 pm11 cd11 ct11 oc12 kV12 dc12 pm12 cd12 ct12 oc13 kV13 dc13 pm13 cd13 ct13 oc14 kV14 dc14 pm14 cd14 ct14 oc15 kV15 dc15 pm15 cd15 ct15 oc16 kV16 dc16 pm16 cd16 ct16 oc17 kV17 dc17 pm17 cd17 ct17 oc18 kV18 dc18 pm18 cd18 ct18 oc19 kV19 dc19 pm19 cd19 ct19 : Value}
    {t_MOST_LISTED : Tok}
    {C_Looped C_NoFilling C_NoGoing C_NoLine C_NoName C_NoNumber C_NoOrder C_NoRow C_NoShape C_NoThing C_NotForest C_NotLoose C_RiseError C_TooGreat : Addr}
    (a1 : PySem.W.nsIn K mainGlobals "joined" = some (some (.ref f1))) (l1 : K.lookup f1 = some ⟨oc1, od1, .func (PySem.W.fnOf "joined" "joined" (defArgs s_joined) (defBody s_joined) (defScope s_joined) .none kV1 dc1 pm1 an1 cd1 ct1), sl1⟩) (c1 : PySem.W.codeIn K cd1 "joined" = true) (k1 : PySem.W.keepIn K (.ref f1) = true)
    (a2 : PySem.W.nsIn K mainGlobals "ready_things" = some (some (.ref f2))) (l2 : K.lookup f2 = some ⟨oc2, od2, .func (PySem.W.fnOf "ready_things" "ready_things" (defArgs s_ready_things) (defBody s_ready_things) (defScope s_ready_things) .none kV2 dc2 pm2 an2 cd2 ct2), sl2⟩) (c2 : PySem.W.codeIn K cd2 "ready_things" = true) (k2 : PySem.W.keepIn K (.ref f2) = true)
    (a3 : PySem.W.nsIn K mainGlobals "find_ways" = some (some (.ref f3))) (l3 : K.lookup f3 = some ⟨oc3, od3, .func (PySem.W.fnOf "find_ways" "find_ways" (defArgs s_find_ways) (defBody s_find_ways) (defScope s_find_ways) .none kV3 dc3 pm3 an3 cd3 ct3), sl3⟩) (c3 : PySem.W.codeIn K cd3 "find_ways" = true) (k3 : PySem.W.keepIn K (.ref f3) = true)
    (a4 : PySem.W.nsIn K mainGlobals "ways_on" = some (some (.ref f4))) (l4 : K.lookup f4 = some ⟨oc4, od4, .func (PySem.W.fnOf "ways_on" "ways_on" (defArgs s_ways_on) (defBody s_ways_on) (defScope s_ways_on) .none kV4 dc4 pm4 an4 cd4 ct4), sl4⟩) (c4 : PySem.W.codeIn K cd4 "ways_on" = true) (k4 : PySem.W.keepIn K (.ref f4) = true)
    (a5 : PySem.W.nsIn K mainGlobals "goings_many" = some (some (.ref f5))) (l5 : K.lookup f5 = some ⟨oc5, od5, .func (PySem.W.fnOf "goings_many" "goings_many" (defArgs s_goings_many) (defBody s_goings_many) (defScope s_goings_many) .none kV5 dc5 pm5 an5 cd5 ct5), sl5⟩) (c5 : PySem.W.codeIn K cd5 "goings_many" = true) (k5 : PySem.W.keepIn K (.ref f5) = true)
    (a6 : PySem.W.nsIn K mainGlobals "one_step_on" = some (some (.ref f6))) (l6 : K.lookup f6 = some ⟨oc6, od6, .func (PySem.W.fnOf "one_step_on" "one_step_on" (defArgs s_one_step_on) (defBody s_one_step_on) (defScope s_one_step_on) .none kV6 dc6 pm6 an6 cd6 ct6), sl6⟩) (c6 : PySem.W.codeIn K cd6 "one_step_on" = true) (k6 : PySem.W.keepIn K (.ref f6) = true)
    (a7 : PySem.W.nsIn K mainGlobals "goings_listed" = some (some (.ref f7))) (l7 : K.lookup f7 = some ⟨oc7, od7, .func (PySem.W.fnOf "goings_listed" "goings_listed" (defArgs s_goings_listed) (defBody s_goings_listed) (defScope s_goings_listed) .none kV7 dc7 pm7 an7 cd7 ct7), sl7⟩) (c7 : PySem.W.codeIn K cd7 "goings_listed" = true) (k7 : PySem.W.keepIn K (.ref f7) = true)
    (a8 : PySem.W.nsIn K mainGlobals "_law_cell" = some (some (.ref f8))) (l8 : K.lookup f8 = some ⟨oc8, od8, .func (PySem.W.fnOf "_law_cell" "_law_cell" (defArgs s_l_cell) (defBody s_l_cell) (defScope s_l_cell) .none kV8 dc8 pm8 an8 cd8 ct8), sl8⟩) (c8 : PySem.W.codeIn K cd8 "_law_cell" = true) (k8 : PySem.W.keepIn K (.ref f8) = true)
    (a9 : PySem.W.nsIn K mainGlobals "_law_mixed" = some (some (.ref f9))) (l9 : K.lookup f9 = some ⟨oc9, od9, .func (PySem.W.fnOf "_law_mixed" "_law_mixed" (defArgs s_l_mixed) (defBody s_l_mixed) (defScope s_l_mixed) .none kV9 dc9 pm9 an9 cd9 ct9), sl9⟩) (c9 : PySem.W.codeIn K cd9 "_law_mixed" = true) (k9 : PySem.W.keepIn K (.ref f9) = true)
    (a10 : PySem.W.nsIn K mainGlobals "_law_draws" = some (some (.ref f10))) (l10 : K.lookup f10 = some ⟨oc10, od10, .func (PySem.W.fnOf "_law_draws" "_law_draws" (defArgs s_l_draws) (defBody s_l_draws) (defScope s_l_draws) .none kV10 dc10 pm10 an10 cd10 ct10), sl10⟩) (c10 : PySem.W.codeIn K cd10 "_law_draws" = true) (k10 : PySem.W.keepIn K (.ref f10) = true)
    (a11 : PySem.W.nsIn K mainGlobals "_law_same" = some (some (.ref f11))) (l11 : K.lookup f11 = some ⟨oc11, od11, .func (PySem.W.fnOf "_law_same" "_law_same" (defArgs s_l_same) (defBody s_l_same) (defScope s_l_same) .none kV11 dc11 pm11 an11 cd11 ct11), sl11⟩) (c11 : PySem.W.codeIn K cd11 "_law_same" = true) (k11 : PySem.W.keepIn K (.ref f11) = true)
    (a12 : PySem.W.nsIn K mainGlobals "_law_order" = some (some (.ref f12))) (l12 : K.lookup f12 = some ⟨oc12, od12, .func (PySem.W.fnOf "_law_order" "_law_order" (defArgs s_l_order) (defBody s_l_order) (defScope s_l_order) .none kV12 dc12 pm12 an12 cd12 ct12), sl12⟩) (c12 : PySem.W.codeIn K cd12 "_law_order" = true) (k12 : PySem.W.keepIn K (.ref f12) = true)
    (a13 : PySem.W.nsIn K mainGlobals "_law_drawn" = some (some (.ref f13))) (l13 : K.lookup f13 = some ⟨oc13, od13, .func (PySem.W.fnOf "_law_drawn" "_law_drawn" (defArgs s_l_drawn) (defBody s_l_drawn) (defScope s_l_drawn) .none kV13 dc13 pm13 an13 cd13 ct13), sl13⟩) (c13 : PySem.W.codeIn K cd13 "_law_drawn" = true) (k13 : PySem.W.keepIn K (.ref f13) = true)
    (a14 : PySem.W.nsIn K mainGlobals "_law_goings" = some (some (.ref f14))) (l14 : K.lookup f14 = some ⟨oc14, od14, .func (PySem.W.fnOf "_law_goings" "_law_goings" (defArgs s_l_goings) (defBody s_l_goings) (defScope s_l_goings) .none kV14 dc14 pm14 an14 cd14 ct14), sl14⟩) (c14 : PySem.W.codeIn K cd14 "_law_goings" = true) (k14 : PySem.W.keepIn K (.ref f14) = true)
    (a15 : PySem.W.nsIn K mainGlobals "_law_refusal" = some (some (.ref f15))) (l15 : K.lookup f15 = some ⟨oc15, od15, .func (PySem.W.fnOf "_law_refusal" "_law_refusal" (defArgs s_l_refusal) (defBody s_l_refusal) (defScope s_l_refusal) .none kV15 dc15 pm15 an15 cd15 ct15), sl15⟩) (c15 : PySem.W.codeIn K cd15 "_law_refusal" = true) (k15 : PySem.W.keepIn K (.ref f15) = true)
    (a16 : PySem.W.nsIn K mainGlobals "_law_chains" = some (some (.ref f16))) (l16 : K.lookup f16 = some ⟨oc16, od16, .func (PySem.W.fnOf "_law_chains" "_law_chains" (defArgs s_l_chains) (defBody s_l_chains) (defScope s_l_chains) .none kV16 dc16 pm16 an16 cd16 ct16), sl16⟩) (c16 : PySem.W.codeIn K cd16 "_law_chains" = true) (k16 : PySem.W.keepIn K (.ref f16) = true)
    (a17 : PySem.W.nsIn K mainGlobals "_law_two_hundred" = some (some (.ref f17))) (l17 : K.lookup f17 = some ⟨oc17, od17, .func (PySem.W.fnOf "_law_two_hundred" "_law_two_hundred" (defArgs s_l_two_hundred) (defBody s_l_two_hundred) (defScope s_l_two_hundred) .none kV17 dc17 pm17 an17 cd17 ct17), sl17⟩) (c17 : PySem.W.codeIn K cd17 "_law_two_hundred" = true) (k17 : PySem.W.keepIn K (.ref f17) = true)
    (a18 : PySem.W.nsIn K mainGlobals "_law_asked" = some (some (.ref f18))) (l18 : K.lookup f18 = some ⟨oc18, od18, .func (PySem.W.fnOf "_law_asked" "_law_asked" (defArgs s_l_asked) (defBody s_l_asked) (defScope s_l_asked) .none kV18 dc18 pm18 an18 cd18 ct18), sl18⟩) (c18 : PySem.W.codeIn K cd18 "_law_asked" = true) (k18 : PySem.W.keepIn K (.ref f18) = true)
    (a19 : PySem.W.nsIn K mainGlobals "law" = some (some (.ref f19))) (l19 : K.lookup f19 = some ⟨oc19, od19, .func (PySem.W.fnOf "law" "law" (defArgs s_law) (defBody s_law) (defScope s_law) .none kV19 dc19 pm19 an19 cd19 ct19), sl19⟩) (c19 : PySem.W.codeIn K cd19 "law" = true) (k19 : PySem.W.keepIn K (.ref f19) = true)
    (u_Looped : PySem.W.nsIn K mainGlobals "Looped" = some (some (.ref C_Looped)))
    (u_NoFilling : PySem.W.nsIn K mainGlobals "NoFilling" = some (some (.ref C_NoFilling)))
    (u_NoGoing : PySem.W.nsIn K mainGlobals "NoGoing" = some (some (.ref C_NoGoing)))
    (u_NoLine : PySem.W.nsIn K mainGlobals "NoLine" = some (some (.ref C_NoLine)))
    (u_NoName : PySem.W.nsIn K mainGlobals "NoName" = some (some (.ref C_NoName)))
    (u_NoNumber : PySem.W.nsIn K mainGlobals "NoNumber" = some (some (.ref C_NoNumber)))
    (u_NoOrder : PySem.W.nsIn K mainGlobals "NoOrder" = some (some (.ref C_NoOrder)))
    (u_NoRow : PySem.W.nsIn K mainGlobals "NoRow" = some (some (.ref C_NoRow)))
    (u_NoShape : PySem.W.nsIn K mainGlobals "NoShape" = some (some (.ref C_NoShape)))
    (u_NoThing : PySem.W.nsIn K mainGlobals "NoThing" = some (some (.ref C_NoThing)))
    (u_NotForest : PySem.W.nsIn K mainGlobals "NotForest" = some (some (.ref C_NotForest)))
    (u_NotLoose : PySem.W.nsIn K mainGlobals "NotLoose" = some (some (.ref C_NotLoose)))
    (u_RiseError : PySem.W.nsIn K mainGlobals "RiseError" = some (some (.ref C_RiseError)))
    (u_TooGreat : PySem.W.nsIn K mainGlobals "TooGreat" = some (some (.ref C_TooGreat)))
    (v_TooGreat : PySem.W.excIn K C_TooGreat bmV "ValueError.__new__" = true)
    (e1 : PySem.W.subIn K (.ref C_RiseError) (.type "BaseException") = some true)
    (e2 : PySem.W.isClsIn K C_RiseError = true)
    (e3 : PySem.W.typeIn K (.ref C_RiseError) = some (.type "type"))
    (qq_TooGreat : ExcQ K C_TooGreat)
    (sVE_TooGreat : PySem.W.subIn K (.ref C_TooGreat) (.type "ValueError") = some true)
    (d_TooGreat_NoLine : NotSub K C_TooGreat C_NoLine)
    (d_TooGreat_NoName : NotSub K C_TooGreat C_NoName)
    (d_TooGreat_NoShape : NotSub K C_TooGreat C_NoShape)
    (d_TooGreat_NotForest : NotSub K C_TooGreat C_NotForest)
    (d_TooGreat_NotLoose : NotSub K C_TooGreat C_NotLoose)
    (d_TooGreat_NoFilling : NotSub K C_TooGreat C_NoFilling)
    (d_TooGreat_NoRow : NotSub K C_TooGreat C_NoRow)
    (d_TooGreat_NoGoing : NotSub K C_TooGreat C_NoGoing)
    (d_TooGreat_NoNumber : NotSub K C_TooGreat C_NoNumber)
    (d_TooGreat_NoOrder : NotSub K C_TooGreat C_NoOrder)
    (d_TooGreat_Looped : NotSub K C_TooGreat C_Looped)
    (d_TooGreat_NoThing : NotSub K C_TooGreat C_NoThing)
    (e4_TooGreat : PySem.W.subIn K (.ref C_TooGreat) (.ref C_RiseError) = some true)
    (z1 : PySem.W.nsIn K mainGlobals "sorted" = some none) (z2 : PySem.W.nsIn K mainGlobals "tuple" = some none) (z3 : PySem.W.nsIn K mainGlobals "all" = some none) (z4 : PySem.W.nsIn K mainGlobals "len" = some none) (z5 : PySem.W.nsIn K mainGlobals "range" = some none) (z6 : PySem.W.nsIn K mainGlobals "sum" = some none) (z7 : PySem.W.nsIn K mainGlobals "isinstance" = some none) (z8 : PySem.W.nsIn K mainGlobals "str" = some none) (z9 : PySem.W.nsIn K mainGlobals "int" = some none) (z10 : PySem.W.nsIn K mainGlobals "bool" = some none) (z11 : PySem.W.nsIn K mainGlobals "list" = some none) (z12 : PySem.W.nsIn K mainGlobals "ValueError" = some none) (y_MOST_LISTED : PySem.W.nsIn K mainGlobals "MOST_LISTED" = some (some (.int 200 t_MOST_LISTED))) :
    ∃ fd : FuncData, (∀ (s : Shared) (v : Value), BindsTo s fd ⟨[v], []⟩ [("_law_script", v)]) ∧ ∀ base : Heap, K.In base → base.Ns mainGlobals mg → FnOk l.prog w K mg base CX0 19 fa fd ["_law_script"] (sp4 K f_law) := by
  have e := hfa.symm.trans (PySem.W.mg_of X G a19)
  cases e
  have F1 := fun_mk (st := s_joined) l1 c1 k1
  have F2 := fun_mk (st := s_ready_things) l2 c2 k2
  have F3 := fun_mk (st := s_find_ways) l3 c3 k3
  have F4 := fun_mk (st := s_ways_on) l4 c4 k4
  have F5 := fun_mk (st := s_goings_many) l5 c5 k5
  have F6 := fun_mk (st := s_one_step_on) l6 c6 k6
  have F7 := fun_mk (st := s_goings_listed) l7 c7 k7
  have F8 := fun_mk (st := s_l_cell) l8 c8 k8
  have F9 := fun_mk (st := s_l_mixed) l9 c9 k9
  have F10 := fun_mk (st := s_l_draws) l10 c10 k10
  have F11 := fun_mk (st := s_l_same) l11 c11 k11
  have F12 := fun_mk (st := s_l_order) l12 c12 k12
  have F13 := fun_mk (st := s_l_drawn) l13 c13 k13
  have F14 := fun_mk (st := s_l_goings) l14 c14 k14
  have F15 := fun_mk (st := s_l_refusal) l15 c15 k15
  have F16 := fun_mk (st := s_l_chains) l16 c16 k16
  have F17 := fun_mk (st := s_l_two_hundred) l17 c17 k17
  have F18 := fun_mk (st := s_l_asked) l18 c18 k18
  have F19 := fun_mk (st := s_law) l19 c19 k19
  have b1 := F1.binds (ps := ["ahead", "thing"]) fun _ _ _ _ _ _ us hl => by obtain ⟨_, _, rfl⟩ := len_is2 us hl; rfl
  have g1 := PySem.W.mg_of X G a1
  have b2 := F2.binds (ps := ["order", "ahead"]) fun _ _ _ _ _ _ us hl => by obtain ⟨_, _, rfl⟩ := len_is2 us hl; rfl
  have g2 := PySem.W.mg_of X G a2
  have b3 := F3.binds (ps := ["order", "ahead", "ways"]) fun _ _ _ _ _ _ us hl => by obtain ⟨_, _, _, rfl⟩ := len_is3 us hl; rfl
  have g3 := PySem.W.mg_of X G a3
  have b4 := F4.binds (ps := ["order"]) fun _ _ _ _ _ _ us hl => by obtain ⟨_, rfl⟩ := len_is1 us hl; rfl
  have g4 := PySem.W.mg_of X G a4
  have b5 := F5.binds (ps := ["order"]) fun _ _ _ _ _ _ us hl => by obtain ⟨_, rfl⟩ := len_is1 us hl; rfl
  have g5 := PySem.W.mg_of X G a5
  have b6 := F6.binds (ps := ["order", "begun"]) fun _ _ _ _ _ _ us hl => by obtain ⟨_, _, rfl⟩ := len_is2 us hl; rfl
  have g6 := PySem.W.mg_of X G a6
  have b7 := F7.binds (ps := ["order"]) fun _ _ _ _ _ _ us hl => by obtain ⟨_, rfl⟩ := len_is1 us hl; rfl
  have g7 := PySem.W.mg_of X G a7
  have b8 := F8.binds (ps := ["_law_script", "_law_k"]) fun _ _ _ _ _ _ us hl => by obtain ⟨_, _, rfl⟩ := len_is2 us hl; rfl
  have g8 := PySem.W.mg_of X G a8
  have b9 := F9.binds (ps := ["_law_cell_here", "_law_k", "_law_salt"]) fun _ _ _ _ _ _ us hl => by obtain ⟨_, _, _, rfl⟩ := len_is3 us hl; rfl
  have g9 := PySem.W.mg_of X G a9
  have b10 := F10.binds (ps := ["_law_cell_here", "_law_many", "_law_salt"]) fun _ _ _ _ _ _ us hl => by obtain ⟨_, _, _, rfl⟩ := len_is3 us hl; rfl
  have g10 := PySem.W.mg_of X G a10
  have b11 := F11.binds (ps := ["_law_found", "_law_due"]) fun _ _ _ _ _ _ us hl => by obtain ⟨_, _, rfl⟩ := len_is2 us hl; rfl
  have g11 := PySem.W.mg_of X G a11
  have b12 := F12.binds (ps := ["_law_draws_here", "_law_n", "_law_thick"]) fun _ _ _ _ _ _ us hl => by obtain ⟨_, _, _, rfl⟩ := len_is3 us hl; rfl
  have g12 := PySem.W.mg_of X G a12
  have b13 := F13.binds (ps := ["_law_script", "_law_k", "_law_most", "_law_salt"]) fun _ _ _ _ _ _ us hl => by obtain ⟨_, _, _, _, rfl⟩ := len_is4 us hl; rfl
  have g13 := PySem.W.mg_of X G a13
  have b14 := F14.binds (ps := ["_law_order_here"]) fun _ _ _ _ _ _ us hl => by obtain ⟨_, rfl⟩ := len_is1 us hl; rfl
  have g14 := PySem.W.mg_of X G a14
  have b15 := F15.binds (ps := ["_law_kinds"]) fun _ _ _ _ _ _ us hl => by obtain ⟨_, rfl⟩ := len_is1 us hl; rfl
  have g15 := PySem.W.mg_of X G a15
  have b16 := F16.binds (ps := ["_law_sizes", "_law_draws_here"]) fun _ _ _ _ _ _ us hl => by obtain ⟨_, _, rfl⟩ := len_is2 us hl; rfl
  have g16 := PySem.W.mg_of X G a16
  have b17 := F17.binds (ps := ["_law_draws_here"]) fun _ _ _ _ _ _ us hl => by obtain ⟨_, rfl⟩ := len_is1 us hl; rfl
  have g17 := PySem.W.mg_of X G a17
  have b18 := F18.binds (ps := ["_law_order_here"]) fun _ _ _ _ _ _ us hl => by obtain ⟨_, rfl⟩ := len_is1 us hl; rfl
  have g18 := PySem.W.mg_of X G a18
  have m_sorted := PySem.W.mg_none_of X G z1
  have m_tuple := PySem.W.mg_none_of X G z2
  have m_all := PySem.W.mg_none_of X G z3
  have m_len := PySem.W.mg_none_of X G z4
  have m_range := PySem.W.mg_none_of X G z5
  have m_sum := PySem.W.mg_none_of X G z6
  have m_isinstance := PySem.W.mg_none_of X G z7
  have m_str := PySem.W.mg_none_of X G z8
  have m_int := PySem.W.mg_none_of X G z9
  have m_bool := PySem.W.mg_none_of X G z10
  have m_list := PySem.W.mg_none_of X G z11
  have m_ValueError := PySem.W.mg_none_of X G z12
  have c_MOST_LISTED := PySem.W.mg_of X G y_MOST_LISTED
  have x_Looped := PySem.W.mg_of X G u_Looped
  have x_NoFilling := PySem.W.mg_of X G u_NoFilling
  have x_NoGoing := PySem.W.mg_of X G u_NoGoing
  have x_NoLine := PySem.W.mg_of X G u_NoLine
  have x_NoName := PySem.W.mg_of X G u_NoName
  have x_NoNumber := PySem.W.mg_of X G u_NoNumber
  have x_NoOrder := PySem.W.mg_of X G u_NoOrder
  have x_NoRow := PySem.W.mg_of X G u_NoRow
  have x_NoShape := PySem.W.mg_of X G u_NoShape
  have x_NoThing := PySem.W.mg_of X G u_NoThing
  have x_NotForest := PySem.W.mg_of X G u_NotForest
  have x_NotLoose := PySem.W.mg_of X G u_NotLoose
  have x_RiseError := PySem.W.mg_of X G u_RiseError
  have x_TooGreat := PySem.W.mg_of X G u_TooGreat
  have q_TooGreat := excC_of v_TooGreat
  refine ⟨PySem.W.fnOf "law" "law" (defArgs s_law) (defBody s_law) (defScope s_law) .none kV19 dc19 pm19 an19 cd19 ct19, fun s v => .of_eq rfl, fun base _ _ => ?_⟩
  have o1 : FnOk l.prog w K mg base CX0 4 f1 _ _ (sp4 K LL.f_joined) := ok_joined (kk := 3) F1 m_sorted m_tuple
  have o2 : FnOk l.prog w K mg base CX0 4 f2 _ _ (sp4 K LL.f_ready_things) := ok_ready_things (kk := 3) F2 m_all m_len m_range
  have o3 : ∀ x : List (List Int), goodX x = true → FnOk l.prog w K mg base CX0 14 f3 _ _ (spW (LL.rdI x) K x (LL.okI x) x.length) := fun x hg => ok_find_ways (kk := 4) F3 (o2.mono (by decide)) g2 k2 b2 (o1.mono (by decide)) g1 k1 b1 g3 k3 b3 m_len m_sum hg
  have o4 : ∀ x : List (List Int), goodX x = true → FnOk l.prog w K mg base CX0 15 f4 _ _ (spO (LL.rdI x) K x) := ok_ways_on (kk := 14) F4 (fun x hg => (o3 x hg).mono (by decide)) g3 k3 b3
  have o5 : FnOk l.prog w K mg base CX0 16 f5 _ _ (sp4 K (L7.waysR LL.rdI)) := ok_goings_many (kk := 15) F5 (fun x hg => (o4 x hg).mono (by decide)) g4 k4 b4
  have o6 : FnOk l.prog w K mg base CX0 5 f6 _ _ (sp4 K f_one_step_on) := ok_one_step_on (kk := 4) F6 (o2.mono (by decide)) g2 k2 b2
  have o7 : FnOk l.prog w K mg base (CXW l.prog w) 17 f7 _ _ (sp5 K mg f_goings_listed) := ok_goings_listed (kk := 16) F7 (o6.mono (by decide)) g6 k6 b6 (o5.mono (by decide)) g5 k5 b5 x_TooGreat q_TooGreat c_MOST_LISTED m_tuple m_len m_range
  have o8 : FnOk l.prog w K mg base CX0 4 f8 _ _ (sp4 K LL.f_l_cell) := ok_l_cell (kk := 3) F8 m_len
  have o9 : FnOk l.prog w K mg base CX0 4 f9 _ _ (sp4 K LL.f_l_mixed) := ok_l_mixed (kk := 3) F9 
  have o10 : FnOk l.prog w K mg base CX0 5 f10 _ _ (sp4 K LL.f_l_draws) := ok_l_draws (kk := 4) F10 (o9.mono (by decide)) g9 k9 b9 m_range
  have o11 : FnOk l.prog w K mg base CX0 9 f11 _ _ (sp4 K (LL.f_l_same 6)) := ok_l_same (kk := 3) F11 g11 k11 b11 m_isinstance m_str m_int m_bool m_tuple m_len m_range m_all 6
  have o12 : FnOk l.prog w K mg base CX0 4 f12 _ _ (sp4 K LL.f_l_order) := ok_l_order (kk := 3) F12 m_range m_sorted m_tuple m_len m_list
  have o13 : FnOk l.prog w K mg base CX0 6 f13 _ _ (sp4 K LL.f_l_drawn) := ok_l_drawn (kk := 5) F13 (o12.mono (by decide)) g12 k12 b12 (o10.mono (by decide)) g10 k10 b10 (o8.mono (by decide)) g8 k8 b8
  have o14 : FnOk l.prog w K mg base CX0 4 f14 _ _ (sp4 K LL.f_l_goings) := ok_l_goings (kk := 3) F14 m_len m_range m_all
  have o15 : FnOk l.prog w K mg base CX0 4 f15 _ _ (sp4 K f_l_refusal) := ok_l_refusal (kk := 3) F15 
  have o16 : FnOk l.prog w K mg base CX0 4 f16 _ _ (sp4 K f_l_chains) := ok_l_chains (kk := 3) F16 m_tuple m_range m_sorted m_len m_sum m_list
  have o17 : FnOk l.prog w K mg base CX0 4 f17 _ _ (sp4 K f_l_two_hundred) := ok_l_two_hundred (kk := 3) F17 m_tuple m_range m_sorted m_len m_list
  have o18 : FnOk l.prog w K mg base CX0 18 f18 _ _ (sp4 K f_l_asked) := ok_l_asked (kk := 17) F18 (o15.mono (by decide)) g15 k15 b15 (o7.mono (by decide)) g7 k7 b7 x_Looped x_NoFilling x_NoGoing x_NoLine x_NoName x_NoNumber x_NoOrder x_NoRow x_NoShape x_NoThing x_NotForest x_NotLoose x_RiseError x_TooGreat e1 e2 e3 qq_TooGreat sVE_TooGreat d_TooGreat_NoLine d_TooGreat_NoName d_TooGreat_NoShape d_TooGreat_NotForest d_TooGreat_NotLoose d_TooGreat_NoFilling d_TooGreat_NoRow d_TooGreat_NoGoing d_TooGreat_NoNumber d_TooGreat_NoOrder d_TooGreat_Looped d_TooGreat_NoThing e4_TooGreat m_len m_isinstance m_ValueError
  exact ok_law (kk := 18) F19 (o11.mono (by decide)) g11 k11 b11 (o18.mono (by decide)) g18 k18 b18 (o5.mono (by decide)) g5 k5 b5 (o14.mono (by decide)) g14 k14 b14 (o16.mono (by decide)) g16 k16 b16 (o17.mono (by decide)) g17 k17 b17 (o10.mono (by decide)) g10 k10 b10 (o8.mono (by decide)) g8 k8 b8 (o13.mono (by decide)) g13 k13 b13 m_range m_len m_tuple
theorem scr_of {K : PySem.W.Frag} {H : Hp} {a : Addr} {ns : List Int} (o : Only H) (h : SqL K H a (ns.map V.int)) : Scr K H a ns := by
  rcases h with h | h
  · rcases h with h | ⟨b, h⟩
    · rcases o a with z | ⟨_, _, z⟩ <;> rw [z] at h <;> cases h
    · exact .inl ⟨b, h⟩
  · exact .inr (.inr h)
theorem walk {l : PySem.W.OpenLaw} {q : Program} {loose : List Str} {XP : (Str → Option Value) → Heap → Prop} {YP : World → Heap → Prop} {d : DefRec} {K : Params → PySem.W.Frag} (hn : l.most = some 63) (hdf : d.params.defaults = [])
    (hY : ∀ (w : World) (h : Heap), YP w h → (K w.params).In h)
    (F : ∀ (w : World) (mg : Str → Option Value) (fa : Addr) (h : Heap), (K w.params).In h → h.Ns mainGlobals mg → mg d.name = some (.ref fa) →
      ∃ fd : FuncData, (∀ (s : Shared) (u : Value), BindsTo s fd ⟨[u], []⟩ [("_law_script", u)]) ∧ ∀ base : Heap, (K w.params).In base → base.Ns mainGlobals mg → FnOk l.prog w (K w.params) mg base CX0 19 fa fd ["_law_script"] (sp4 (K w.params) f_law)) :
    PySem.W.WalkO q loose XP YP l.row.toRowW d [] (fun f vs => PySem.call f vs) :=
  L2.walk_of (n := 63) (k := 19) (x := "_law_script") (CX := fun _ => CX0) (sp := fun w => sp4 (K w.params) f_law) hn (by decide) hdf ⟨rfl, by decide, by decide⟩ hY F
    (fun _ H a ns hl o hS => ⟨fun a => H a = none, [.scr ns], fun d => d = .bl true, fun _ h => h, ⟨_, _, rfl, ⟨a, rfl, scr_of o hS⟩, rfl⟩, ⟨_, law_true ns hl, rfl⟩, fun v H' d _ hd e => by subst e; exact hd⟩) fun _ _ _ _ _ z => z
end K10
open PySem PySem.W PyProof.Rows
noncomputable def PySem.W.Fast.tw2326300904672004162 := 0
noncomputable def PySem.W.Fast.tw810160249452683988 := 0
noncomputable def PySem.W.Fast.tw555363414717326048 := 0
noncomputable def PySem.W.Fast.tw6683261522086327133 := 0
noncomputable def PySem.W.Fast.tw15702350891823062716 := 0
noncomputable def PySem.W.Fast.tw5788242814478190838 := 0
noncomputable def PySem.W.Fast.tw2546099603568918345 := 0
noncomputable def PySem.W.Fast.tw1483160705972276366 := 0
noncomputable def PySem.W.Fast.tw4716194264830698607 := 0
noncomputable def PySem.W.Fast.tw4540272883713044406 := 0
noncomputable def PySem.W.Fast.tw17214886184134050862 := 0
noncomputable def PySem.W.Fast.tw450608652601245310 := 0
noncomputable def PySem.W.Fast.tw3502958999012412504 := 0
noncomputable def PySem.W.Fast.tw7987636790240134313 := 0
noncomputable def PySem.W.Fast.tw16044404331709325104 := 0
noncomputable def PySem.W.Fast.tw10909362445866216868 := 0
noncomputable def PySem.W.Fast.tw18434109442728358324 := 0
noncomputable def PySem.W.Fast.tw13062971658555817215 := 0
noncomputable def PySem.W.Fast.tw7390863433485951237 := 0
noncomputable def PySem.W.Fast.tw8154373417760054874 := 0
set_option maxRecDepth 100000 in
set_option maxHeartbeats 0 in
theorem PySem.Challenge.cw_risecount_k10_goings_listed_holds : PySem.Challenge.rw_risecount_k10_goings_listed.Holds := by
  w_on; o_law; k_head; (case hw => w_witness2)
  k_fill
  refine K10.walk (l := PySem.Challenge.rw_risecount_k10_goings_listed) rfl rfl (fun w h Y => PySem.W.kIn_of Y) ?F
  case F =>
    intro w mg fa h KX G hmg
    refine' K10.all_mk KX G hmg ?a1 ?l1 ?c1 ?k1 ?a2 ?l2 ?c2 ?k2 ?a3 ?l3 ?c3 ?k3 ?a4 ?l4 ?c4 ?k4 ?a5 ?l5 ?c5 ?k5 ?a6 ?l6 ?c6 ?k6 ?a7 ?l7 ?c7 ?k7 ?a8 ?l8 ?c8 ?k8 ?a9 ?l9 ?c9 ?k9 ?a10 ?l10 ?c10 ?k10 ?a11 ?l11 ?c11 ?k11 ?a12 ?l12 ?c12 ?k12 ?a13 ?l13 ?c13 ?k13 ?a14 ?l14 ?c14 ?k14 ?a15 ?l15 ?c15 ?k15 ?a16 ?l16 ?c16 ?k16 ?a17 ?l17 ?c17 ?k17 ?a18 ?l18 ?c18 ?k18 ?a19 ?l19 ?c19 ?k19 ?u_Looped ?u_NoFilling ?u_NoGoing ?u_NoLine ?u_NoName ?u_NoNumber ?u_NoOrder ?u_NoRow ?u_NoShape ?u_NoThing ?u_NotForest ?u_NotLoose ?u_RiseError ?u_TooGreat ?v_TooGreat ?e1 ?e2 ?e3 ?qq_TooGreat ?sVE_TooGreat ?d_TooGreat_NoLine ?d_TooGreat_NoName ?d_TooGreat_NoShape ?d_TooGreat_NotForest ?d_TooGreat_NotLoose ?d_TooGreat_NoFilling ?d_TooGreat_NoRow ?d_TooGreat_NoGoing ?d_TooGreat_NoNumber ?d_TooGreat_NoOrder ?d_TooGreat_Looped ?d_TooGreat_NoThing ?e4_TooGreat ?z1 ?z2 ?z3 ?z4 ?z5 ?z6 ?z7 ?z8 ?z9 ?z10 ?z11 ?z12 ?y_MOST_LISTED
    (case a1 => k_is); (case l1 => k_is); (case c1 => k_is); (case k1 => k_is)
    (case a2 => k_is); (case l2 => k_is); (case c2 => k_is); (case k2 => k_is)
    (case a3 => k_is); (case l3 => k_is); (case c3 => k_is); (case k3 => k_is)
    (case a4 => k_is); (case l4 => k_is); (case c4 => k_is); (case k4 => k_is)
    (case a5 => k_is); (case l5 => k_is); (case c5 => k_is); (case k5 => k_is)
    (case a6 => k_is); (case l6 => k_is); (case c6 => k_is); (case k6 => k_is)
    (case a7 => k_is); (case l7 => k_is); (case c7 => k_is); (case k7 => k_is)
    (case a8 => k_is); (case l8 => k_is); (case c8 => k_is); (case k8 => k_is)
    (case a9 => k_is); (case l9 => k_is); (case c9 => k_is); (case k9 => k_is)
    (case a10 => k_is); (case l10 => k_is); (case c10 => k_is); (case k10 => k_is)
    (case a11 => k_is); (case l11 => k_is); (case c11 => k_is); (case k11 => k_is)
    (case a12 => k_is); (case l12 => k_is); (case c12 => k_is); (case k12 => k_is)
    (case a13 => k_is); (case l13 => k_is); (case c13 => k_is); (case k13 => k_is)
    (case a14 => k_is); (case l14 => k_is); (case c14 => k_is); (case k14 => k_is)
    (case a15 => k_is); (case l15 => k_is); (case c15 => k_is); (case k15 => k_is)
    (case a16 => k_is); (case l16 => k_is); (case c16 => k_is); (case k16 => k_is)
    (case a17 => k_is); (case l17 => k_is); (case c17 => k_is); (case k17 => k_is)
    (case a18 => k_is); (case l18 => k_is); (case c18 => k_is); (case k18 => k_is)
    (case a19 => k_is); (case l19 => k_is); (case c19 => k_is); (case k19 => k_is)
    (case u_Looped => k_is)
    (case u_NoFilling => k_is)
    (case u_NoGoing => k_is)
    (case u_NoLine => k_is)
    (case u_NoName => k_is)
    (case u_NoNumber => k_is)
    (case u_NoOrder => k_is)
    (case u_NoRow => k_is)
    (case u_NoShape => k_is)
    (case u_NoThing => k_is)
    (case u_NotForest => k_is)
    (case u_NotLoose => k_is)
    (case u_RiseError => k_is)
    (case u_TooGreat => k_is)
    (case v_TooGreat => k_exc)
    (case e1 => k_is)
    (case e2 => k_is)
    (case e3 => k_is)
    (case qq_TooGreat => exact ⟨by k_is, by k_is, by k_is, by k_is, by k_is, by k_is, by k_is, by k_is⟩)
    (case sVE_TooGreat => k_is)
    (case d_TooGreat_NoLine => exact ⟨by rfl, by k_is, by k_is, by k_is⟩)
    (case d_TooGreat_NoName => exact ⟨by rfl, by k_is, by k_is, by k_is⟩)
    (case d_TooGreat_NoShape => exact ⟨by rfl, by k_is, by k_is, by k_is⟩)
    (case d_TooGreat_NotForest => exact ⟨by rfl, by k_is, by k_is, by k_is⟩)
    (case d_TooGreat_NotLoose => exact ⟨by rfl, by k_is, by k_is, by k_is⟩)
    (case d_TooGreat_NoFilling => exact ⟨by rfl, by k_is, by k_is, by k_is⟩)
    (case d_TooGreat_NoRow => exact ⟨by rfl, by k_is, by k_is, by k_is⟩)
    (case d_TooGreat_NoGoing => exact ⟨by rfl, by k_is, by k_is, by k_is⟩)
    (case d_TooGreat_NoNumber => exact ⟨by rfl, by k_is, by k_is, by k_is⟩)
    (case d_TooGreat_NoOrder => exact ⟨by rfl, by k_is, by k_is, by k_is⟩)
    (case d_TooGreat_Looped => exact ⟨by rfl, by k_is, by k_is, by k_is⟩)
    (case d_TooGreat_NoThing => exact ⟨by rfl, by k_is, by k_is, by k_is⟩)
    (case e4_TooGreat => k_is)
    (case z1 => k_is)
    (case z2 => k_is)
    (case z3 => k_is)
    (case z4 => k_is)
    (case z5 => k_is)
    (case z6 => k_is)
    (case z7 => k_is)
    (case z8 => k_is)
    (case z9 => k_is)
    (case z10 => k_is)
    (case z11 => k_is)
    (case z12 => k_is)
    (case y_MOST_LISTED => k_is)
end
