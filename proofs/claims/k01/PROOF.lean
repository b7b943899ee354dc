import PyProof.Rows.All
import PySem.Str
import PySem.Sem
import PyProof.StrBlockL
import PyProof.Rows.Walk
import Wide.All
import OpenK.AllK
import Wide.FinOn
import Lean
import PyProof.EqAt
import PyProof.EqKinds
import PyProof.TupleCall
import PyProof.SeqRoads2
import PyProof.ExcArgs
import KE.KIsAll
import PyProof.DictIter
import PyProof.Rows.CountFlat
import PyProof.NeKinds
import KE.KSortKey
import KE.KMinKey
import PySem.Challenge.RW_risecount_k01_what_is_an_order
section
set_option Elab.async false
set_option linter.all false
namespace L3
open PySem
inductive D where
  | non
  | bl (b : Bool)
  | int (i : Int)
  | str (x : Str)
  | tup (xs : List D)
  | lst (xs : List D)
  | scr (ns : List Int)
  | dic (ks : List (Sum Int Str)) (xs : List D)
  | dicT (q : Nat → Obj → Prop) (ks : List (Sum (Sum Int Str) (List (Sum (Sum Int Str) (List (Sum Int Str)))))) (xs : List D)
  | exc (c : Str) (a : Nat)
  | rws (xs : List (List Int))
mutual
noncomputable def D.imm : D → Bool
  | .non => true
  | .bl _ => true
  | .int _ => true
  | .str _ => true
  | .tup ds => imms ds
  | .lst _ => false
  | .scr _ => true
  | .dic _ _ => false
  | .dicT _ _ _ => false
  | .exc _ _ => true
  | .rws _ => false
noncomputable def imms : List D → Bool
  | [] => true
  | d :: ds => d.imm && imms ds
end
noncomputable abbrev DEnv := List (Option D)
inductive Sv where
  | no
  | ro (d : D)
  | ow (d : D)
noncomputable abbrev SEnv := List Sv
noncomputable def Sv.all : Sv → Option D
  | .no => none
  | .ro d => some d
  | .ow d => some d
noncomputable def Sv.rd : Sv → Option D
  | .ro d => some d
  | _ => none
noncomputable def vAll (ρ : SEnv) : DEnv := ρ.map Sv.all
noncomputable def vRd (ρ : SEnv) : DEnv := ρ.map Sv.rd
end L3
namespace L4
open PySem L3
inductive M (α : Type) where
  | no
  | ex (c : Str)
  | ok (a : α)
inductive Out where
  | no
  | nx (ρ : SEnv)
  | rt (d : D)
  | ex (c : Str)
noncomputable abbrev EF := DEnv → Option D
noncomputable abbrev TF := DEnv → Option Bool
noncomputable abbrev AF := DEnv → Option (List D)
noncomputable abbrev XF := SEnv → Option (SEnv × D)
noncomputable abbrev SF := SEnv → Out
noncomputable abbrev FnF := List D → M D
noncomputable def szL : Nat := 16777216
noncomputable def eVar (i : Nat) : EF := fun ρ => (ρ[i]?).join
noncomputable def eC (d : D) : EF := fun _ => some d
noncomputable def eBin (g : D → D → Option D) (a b : EF) : EF := fun ρ => (a ρ).bind fun x => (b ρ).bind fun y => g x y
noncomputable def truthM : D → Option Bool
  | .bl b => some b
  | .lst ds => some (!ds.isEmpty)
  | .tup ds => some (!ds.isEmpty)
  | _ => none
noncomputable def tV (f : EF) : TF := fun ρ => (f ρ).bind truthM
noncomputable def tNot (t : TF) : TF := fun ρ => (t ρ).map (!·)
noncomputable def tAnd (t u : TF) : TF := fun ρ => (t ρ).bind fun b => if b = true then u ρ else some false
noncomputable def tOr (t u : TF) : TF := fun ρ => (t ρ).bind fun b => if b = true then some true else u ρ
noncomputable def boolM : D → Option Bool
  | .bl b => some b
  | _ => none
noncomputable def eAnd (a b : EF) : EF := fun ρ => (a ρ).bind fun x => (boolM x).bind fun c => if c = true then b ρ else some (.bl false)
noncomputable def eOr (a b : EF) : EF := fun ρ => (a ρ).bind fun x => (boolM x).bind fun c => if c = true then some (.bl true) else b ρ
noncomputable def eNot (a : EF) : EF := fun ρ => (a ρ).bind fun x => (boolM x).map fun c => .bl (!c)
noncomputable def eIf (t : TF) (a b : EF) : EF := fun ρ => (t ρ).bind fun c => if c = true then a ρ else b ρ
noncomputable def negM : D → Option D
  | .int i => some (.int (-i))
  | _ => none
noncomputable def eNeg (a : EF) : EF := fun ρ => (a ρ).bind negM
noncomputable def eChain (f g : D → D → Option D) (a b c : EF) : EF := fun ρ => (a ρ).bind fun x => (b ρ).bind fun y => (f x y).bind fun z => (boolM z).bind fun k => if k = true then (c ρ).bind fun w => g y w else some (.bl false)
noncomputable def intM (g : Int → Int → D) : D → D → Option D
  | .int i, .int j => some (g i j)
  | _, _ => none
noncomputable def intMC (c : Int → Int → Bool) (g : Int → Int → D) : D → D → Option D
  | .int i, .int j => if c i j = true then some (g i j) else none
  | _, _ => none
noncomputable def addM : D → D → Option D
  | .int i, .int j => some (.int (i + j))
  | .lst a, .lst b => if a.length + b.length ≤ szL then some (.lst (a ++ b)) else none
  | .tup a, .tup b => if a.length + b.length ≤ szL then some (.tup (a ++ b)) else none
  | .str a, .str b => if a.length + b.length ≤ szL then some (.str (a ++ b)) else none
  | _, _ => none
noncomputable def subM : D → D → Option D := intM fun i j => .int (i - j)
noncomputable def mulOk (i j : Int) : Bool := decide (i.natAbs < 18446744073709551616) || decide (j.natAbs < 18446744073709551616) || decide (i.natAbs.log2 + j.natAbs.log2 ≤ 134217700)
noncomputable def mulM : D → D → Option D := intMC mulOk fun i j => .int (i * j)
noncomputable def modM : D → D → Option D := intMC (fun _ j => decide (0 < j)) fun i j => .int (i % j)
noncomputable def divM : D → D → Option D := intMC (fun _ j => decide (0 < j) && decide (j.natAbs < 1073741824)) fun i j => .int (i / j)
noncomputable def powM : D → D → Option D := intMC (fun i j => decide (0 ≤ j) && decide (j.natAbs ≤ 1000000) && decide (i.natAbs < 18446744073709551616)) fun i j => .int (i ^ j.toNat)
noncomputable def ltM : D → D → Option D := intM fun i j => .bl (decide (i < j))
noncomputable def leM : D → D → Option D := intM fun i j => .bl (decide (i ≤ j))
noncomputable def gtM : D → D → Option D := intM fun i j => .bl (decide (j < i))
noncomputable def geM : D → D → Option D := intM fun i j => .bl (decide (j ≤ i))
noncomputable def scalM : D → D → Option Bool
  | .int i, .int j => some (decide (i = j))
  | .bl i, .bl j => some (decide (i = j))
  | .str i, .str j => some (decide (i = j))
  | .non, .non => some true
  | _, _ => none
noncomputable def eqM : D → D → Option D := fun x y => (scalM x y).map .bl
noncomputable def neM : D → D → Option D := fun x y => (scalM x y).map fun b => .bl (!b)
noncomputable def isNon : D → Bool
  | .non => true
  | _ => false
noncomputable def isM : D → D → Option D := fun x y => if isNon y = true then some (.bl (isNon x)) else none
noncomputable def intsOf : List D → Option (List Int)
  | [] => some []
  | .int i :: ds => (intsOf ds).map (i :: ·)
  | _ :: _ => none
noncomputable def inM (neg : Bool) : D → D → Option D
  | .int i, .tup ds => (intsOf ds).map fun ns => .bl (if neg then !ns.contains i else ns.contains i)
  | .int i, .lst ds => (intsOf ds).map fun ns => .bl (if neg then !ns.contains i else ns.contains i)
  | _, _ => none
noncomputable def ixP (n : Nat) (i : Int) : Option Nat := if 0 ≤ i then (if i < n then some i.toNat else none) else if -(n : Int) ≤ i then some (i + n).toNat else none
noncomputable def atP {α : Type} (xs : List α) (i : Int) : Option α := (ixP xs.length i).bind fun j => xs[j]?
noncomputable def ixM : D → D → Option D
  | .lst a, .int i => atP a i
  | .tup a, .int i => atP a i
  | .scr a, .int i => (atP a i).map D.int
  | _, _ => none
noncomputable def keyM : D → Option (Sum Int Str)
  | .int i => some (.inl i)
  | .str x => some (.inr x)
  | _ => none
noncomputable def lookM (ks : List (Sum Int Str)) (ds : List D) (k : Sum Int Str) : Option D := ((ks.zip ds).find? fun kv => decide (kv.1 = k)).map (·.2)
noncomputable def ixDM : D → D → Option D
  | .dic ks ds, d => (keyM d).bind fun k => lookM ks ds k
  | _, _ => none
noncomputable def aNil : AF := fun _ => some []
noncomputable def aCons (a : EF) (t : AF) : AF := fun ρ => (a ρ).bind fun d => (t ρ).bind fun ds => some (d :: ds)
noncomputable def eTup (t : AF) : EF := fun ρ => (t ρ).bind fun ds => if ds.length ≤ szL then some (.tup ds) else none
noncomputable def eLst (t : AF) : EF := fun ρ => (t ρ).bind fun ds => if ds.length ≤ szL then some (.lst ds) else none
noncomputable def eCB (g : List D → Option D) (t : AF) : EF := fun ρ => (t ρ).bind g
noncomputable def mOpt : M D → Option D
  | .ok d => some d
  | _ => none
noncomputable def eCall (R : FnF) (t : AF) : EF := fun ρ => (t ρ).bind fun ds => mOpt (R ds)
noncomputable def lenM : List D → Option D
  | [.lst a] => some (.int a.length)
  | [.tup a] => some (.int a.length)
  | [.scr a] => some (.int a.length)
  | _ => none
noncomputable def tupleM : List D → Option D
  | [.lst a] => some (.tup a)
  | [.tup a] => some (.tup a)
  | _ => none
noncomputable def listM : List D → Option D
  | [.lst a] => some (.lst a)
  | [.tup a] => some (.lst a)
  | _ => none
noncomputable def insI (a : Int) : List Int → List Int
  | [] => [a]
  | b :: l => if a ≤ b then a :: b :: l else b :: insI a l
noncomputable def sortI : List Int → List Int
  | [] => []
  | a :: l => insI a (sortI l)
noncomputable def sortedM : List D → Option D
  | [.lst a] => (intsOf a).bind fun ns => if ns.length < 64 then some (.lst ((sortI ns).map D.int)) else none
  | _ => none
noncomputable def sumM : List D → Option D
  | [.lst a] => (intsOf a).map fun ns => .int ns.sum
  | _ => none
noncomputable def truths : List D → Option (List Bool)
  | [] => some []
  | d :: ds => (truthM d).bind fun b => (truths ds).map (b :: ·)
noncomputable def allM : List D → Option D
  | [.lst a] => (truths a).map fun bs => .bl (bs.all id)
  | _ => none
noncomputable def anyM : List D → Option D
  | [.lst a] => (truths a).map fun bs => .bl (bs.any id)
  | _ => none
noncomputable def tyM : D → String
  | .non => "NoneType"
  | .bl _ => "bool"
  | .int _ => "int"
  | .str _ => "str"
  | .tup _ => "tuple"
  | .lst _ => "list"
  | .scr _ => "list"
  | .dic _ _ => "dict"
  | .dicT _ _ _ => "dict"
  | .exc _ _ => "NoneType"
  | .rws _ => "NoneType"
noncomputable def isTM (T : String) (d : D) : Bool := tyM d == T || (T == "int" && tyM d == "bool")
noncomputable def notE : D → Bool
  | .exc _ _ => false
  | .dicT _ _ _ => false
  | .rws _ => false
  | _ => true
noncomputable def eIsi (T : String) (a : EF) : EF := fun ρ => (a ρ).bind fun d => if notE d = true then some (.bl (isTM T d)) else none
noncomputable def rngP (lo : Int) (n : Nat) : List Int := (List.range n).map fun k : Nat => lo + (k : Int)
noncomputable def rngQ (hi : Int) (n : Nat) : List Int := (List.range n).map fun k : Nat => hi - (k : Int)
noncomputable def eListR (t : AF) : EF := fun ρ => (t ρ).bind fun ds => match ds with
  | [.int j] => if j.natAbs ≤ 16777216 then some (.lst ((rngP 0 j.toNat).map D.int)) else none
  | _ => none
noncomputable def eTupR (t : AF) : EF := fun ρ => (t ρ).bind fun ds => match ds with
  | [.int j] => if j.natAbs ≤ 16777216 then some (.tup ((rngP 0 j.toNat).map D.int)) else none
  | [.int i, .int j] => if i.natAbs ≤ 8388608 ∧ j.natAbs ≤ 8388608 then some (.tup ((rngP i (j - i).toNat).map D.int)) else none
  | _ => none
noncomputable def max2M : List D → Option D
  | [.int i, .int j] => some (.int (if j > i then j else i))
  | _ => none
noncomputable def repLM : D → D → Option D
  | .lst a, .int n => if a.length * n.toNat ≤ szL ∧ n.natAbs < 9223372036854775808 then some (.lst (List.replicate n.toNat a).flatten) else none
  | _, _ => none
noncomputable def repTM : D → D → Option D
  | .tup a, .int n => if a.length * n.toNat ≤ szL ∧ n.natAbs < 9223372036854775808 then some (.tup (List.replicate n.toNat a).flatten) else none
  | _, _ => none
noncomputable def catM : D → D → Option D
  | .lst a, .lst b => if a.length + b.length ≤ szL then some (.lst (a ++ b)) else none
  | _, _ => none
noncomputable def walkM : D → Option (List D)
  | .lst ds => some ds
  | .tup ds => some ds
  | _ => none
noncomputable def iWalk (f : EF) : AF := fun ρ => (f ρ).bind walkM
noncomputable def rangeM : List D → Option (List D)
  | [.int j] => if j.natAbs < 4611686018427387904 then some ((rngP 0 j.toNat).map D.int) else none
  | [.int i, .int j] => if i.natAbs < 4611686018427387904 ∧ j.natAbs < 4611686018427387904 then some ((rngP i (j - i).toNat).map D.int) else none
  | [.int i, .int j, .int k] => if k = -1 ∧ i.natAbs < 1000000 ∧ j.natAbs < 1000000 then some ((rngQ i (i - j).toNat).map D.int) else none
  | _ => none
noncomputable def iRange (t : AF) : AF := fun ρ => (t ρ).bind rangeM
noncomputable def enumM : List D → Option (List D)
  | [.lst ds] => some (ds.zipIdx.map fun p => .tup [.int (p.2 : Int), p.1])
  | [.tup ds] => some (ds.zipIdx.map fun p => .tup [.int (p.2 : Int), p.1])
  | _ => none
noncomputable def iEnum (t : AF) : AF := fun ρ => (t ρ).bind enumM
noncomputable def zipM : List D → Option (List D)
  | [a, b] => (walkM a).bind fun xs => (walkM b).map fun ys => (xs.zip ys).map fun p => .tup [p.1, p.2]
  | _ => none
noncomputable def iZip (t : AF) : AF := fun ρ => (t ρ).bind zipM
noncomputable def revM : List D → Option (List D)
  | [.lst ds] => some ds.reverse
  | [.tup ds] => some ds.reverse
  | _ => none
noncomputable def iRev (t : AF) : AF := fun ρ => (t ρ).bind revM
noncomputable abbrev GEF := D → DEnv → Option DEnv
noncomputable def g1 (i : Nat) : GEF := fun d ρ => some (ρ.set i (some d))
noncomputable def pairM : D → Option (D × D)
  | .tup [x, y] => some (x, y)
  | _ => none
noncomputable def g2 (i j : Nat) : GEF := fun d ρ => (pairM d).map fun p => (ρ.set i (some p.1)).set j (some p.2)
noncomputable def tTrue : TF := fun _ => some true
noncomputable def benv (nl : Nat) (fr : List Nat) (ρ : DEnv) : DEnv := List.replicate nl none ++ fr.map fun j => (ρ[j]?).join
noncomputable def compF (g : GEF) (t : TF) (e : EF) (ρ : DEnv) : List D → Option (List D)
  | [] => some []
  | d :: ds => (g d ρ).bind fun ρ1 => (t ρ1).bind fun b => if b = true then (e ρ1).bind fun y => (compF g t e ρ ds).map (y :: ·) else compF g t e ρ ds
noncomputable def eComp (nl : Nat) (fr : List Nat) (it : AF) (g : GEF) (t : TF) (e : EF) : EF := fun ρ => (it ρ).bind fun ds => if ds.length ≤ szL then (compF g t e (benv nl fr ρ) ds).map D.lst else none
noncomputable abbrev OF := DEnv → Option (Option Int)
noncomputable def oNo : OF := fun _ => some none
noncomputable def asInt : D → Option Int
  | .int i => some i
  | _ => none
noncomputable def oE (f : EF) : OF := fun ρ => (f ρ).bind fun d => (asInt d).map some
noncomputable def sIxP (n d : Nat) : Option Int → Nat
  | none => d
  | some i => if i < 0 then (i + n).toNat else min i.toNat n
noncomputable def cutP (xs : List D) (lo hi : Option Int) : List D := (xs.drop (sIxP xs.length 0 lo)).take (sIxP xs.length xs.length hi - sIxP xs.length 0 lo)
noncomputable def slM (d : D) (lo hi : Option Int) : Option D := match d with
  | .lst ds => some (.lst (cutP ds lo hi))
  | .tup ds => some (.tup (cutP ds lo hi))
  | _ => none
noncomputable def eSl (f : EF) (lo hi : OF) : EF := fun ρ => (f ρ).bind fun d => (lo ρ).bind fun l => (hi ρ).bind fun h => slM d l h
noncomputable def xPure (f : EF) : XF := fun ρ => (f (vAll ρ)).bind fun d => if d.imm = true then some (ρ, d) else none
noncomputable def xPureR (f : EF) : XF := fun ρ => (f (vRd ρ)).bind fun d => some (ρ, d)
noncomputable def ownL : Option Sv → Option (List D)
  | some (.ow (.lst ds)) => some ds
  | _ => none
noncomputable def xM1 (i : Nat) (m : List D → D → Option (List D × D)) (x : XF) : XF := fun ρ => (ownL ρ[i]?).bind fun _ => (x ρ).bind fun p => (ownL p.1[i]?).bind fun ds => (m ds p.2).map fun q => (p.1.set i (.ow (.lst q.1)), q.2)
noncomputable def appM : List D → D → Option (List D × D) := fun ds d => if ds.length < szL then some (ds ++ [d], .non) else none
noncomputable def popM : List D → D → Option (List D × D)
  | ds, .int k => if k.natAbs < 9223372036854775808 then (ixP ds.length k).bind fun j => (ds[j]?).map fun d => (ds.eraseIdx j, d) else none
  | _, _ => none
noncomputable def extM : List D → D → Option (List D × D)
  | ds, .lst es => if ds.length + es.length ≤ szL then some (ds ++ es, .non) else none
  | _, _ => none
noncomputable def xPop0 (i : Nat) : XF := fun ρ => (ownL ρ[i]?).bind fun ds => (ds[ds.length - 1]?).map fun d => (ρ.set i (.ow (.lst ds.dropLast)), d)
noncomputable def sEnd : SF := fun ρ => .nx ρ
noncomputable def sSeq (f g : SF) : SF := fun ρ => match f ρ with
  | .nx ρ' => g ρ'
  | o => o
noncomputable def sRet (f : EF) : SF := fun ρ => match f (vAll ρ) with
  | some d => .rt d
  | none => .no
noncomputable def sIf (t : TF) (a b : SF) : SF := fun ρ => match t (vAll ρ) with
  | some true => a ρ
  | some false => b ρ
  | none => .no
noncomputable def sSet (i : Nat) (f : EF) : SF := fun ρ => match f (vRd ρ) with
  | some d => .nx (ρ.set i (.ro d))
  | none => .no
noncomputable def sSetX (i : Nat) (x : XF) : SF := fun ρ => match x ρ with
  | some p => .nx (p.1.set i (.ro p.2))
  | none => .no
noncomputable def sOwn (i : Nat) (f : EF) : SF := fun ρ => match f (vRd ρ) with
  | some d => .nx (ρ.set i (.ow d))
  | none => .no
noncomputable def lstImm : D → Bool
  | .lst ds => imms ds
  | _ => false
noncomputable def sOwnI (i : Nat) (f : EF) : SF := fun ρ => match f (vAll ρ) with
  | some d => if lstImm d = true then .nx (ρ.set i (.ow d)) else .no
  | none => .no
noncomputable def sSetF (i : Nat) (f : EF) : SF := fun ρ => match f (vAll ρ) with
  | some d => if lstImm d = true then .nx (ρ.set i (.ro d)) else .no
  | none => .no
noncomputable def sOwnD (i : Nat) : SF := fun ρ => .nx (ρ.set i (.ow (.dic [] [])))
noncomputable def sX (x : XF) : SF := fun ρ => match x ρ with
  | some p => .nx p.1
  | none => .no
noncomputable def sPut (i : Nat) (x : XF) (k : EF) : SF := fun ρ => match ((x ρ).bind fun p => (ownL p.1[i]?).bind fun ds => (k (vAll p.1)).bind fun kd => (asInt kd).bind fun kk => (ixP ds.length kk).map fun j => p.1.set i (.ow (.lst (ds.set j p.2)))) with
  | some ρ' => .nx ρ'
  | none => .no
noncomputable def ownDic : Option Sv → Option (List (Sum Int Str) × List D)
  | some (.ow (.dic ks ds)) => some (ks, ds)
  | _ => none
noncomputable def sPutN (i : Nat) (x : XF) (k : EF) : SF := fun ρ => match ((x ρ).bind fun p => (ownDic p.1[i]?).bind fun kd => (k (vAll p.1)).bind fun kv => (keyM kv).bind fun kk =>
    if (lookM kd.1 kd.2 kk).isNone = true ∧ kd.2.length < szL then some (p.1.set i (.ow (.dic (kd.1 ++ [kk]) (kd.2 ++ [p.2])))) else none) with
  | some ρ' => .nx ρ'
  | none => .no
noncomputable abbrev GSF := D → SEnv → Option SEnv
noncomputable def gN1 (i : Nat) : GSF := fun d ρ => some (ρ.set i (.ro d))
noncomputable def gN2 (i j : Nat) : GSF := fun d ρ => (pairM d).map fun p => (ρ.set i (.ro p.1)).set j (.ro p.2)
noncomputable def loopF (g : GSF) (b : SF) : List D → SEnv → Out
  | [], ρ => .nx ρ
  | d :: ds, ρ => match g d ρ with
    | none => .no
    | some ρ1 => match b ρ1 with
      | .nx ρ2 => loopF g b ds ρ2
      | o => o
noncomputable def sFor (it : AF) (g : GSF) (b : SF) : SF := fun ρ => match it (vRd ρ) with
  | some ds => loopF g b ds ρ
  | none => .no
noncomputable def whileF (t : TF) (b : SF) : Nat → SEnv → Out
  | 0, _ => .no
  | n + 1, ρ => match t (vAll ρ) with
    | none => .no
    | some false => .nx ρ
    | some true => match b ρ with
      | .nx ρ' => whileF t b n ρ'
      | o => o
noncomputable def whileN : Nat := 1000000
noncomputable def sWhile (n : Nat) (t : TF) (b : SF) : SF := whileF t b n
noncomputable def startS (n : Nat) (ds : List D) : SEnv := ds.map Sv.ro ++ List.replicate (n - ds.length) Sv.no
noncomputable def runF (n np : Nat) (b : SF) : FnF := fun ds => if ds.length = np then (match b (startS n ds) with
  | .rt d => .ok d
  | .nx _ => .ok .non
  | .ex c => .ex c
  | .no => .no) else .no
end L4
end
section
set_option Elab.async false
set_option linter.all false
set_option maxRecDepth 100000
namespace L4
open PySem L3
noncomputable def lexI : List Int → List Int → Bool
  | [], [] => false
  | [], _ :: _ => true
  | _ :: _, [] => false
  | a :: as, b :: bs => if a = b then lexI as bs else decide (a < b)
noncomputable def insT (t : List Int) : List (List Int) → List (List Int)
  | [] => [t]
  | u :: us => if lexI u t = true then u :: insT t us else t :: u :: us
noncomputable def sortT : List (List Int) → List (List Int)
  | [] => []
  | t :: ts => insT t (sortT ts)
noncomputable def tupD (t : List Int) : D := .tup (t.map D.int)
noncomputable def tupOf : D → Option (List Int)
  | .tup ds => intsOf ds
  | _ => none
noncomputable def tupsOf : List D → Option (List (List Int))
  | [] => some []
  | d :: ds => (tupOf d).bind fun t => (tupsOf ds).map (t :: ·)
noncomputable def sortTM : List D → Option D
  | [.lst a] => (tupsOf a).bind fun ts => if ts.length < 64 ∧ ts.all (fun t => !t.isEmpty) = true then some (.lst ((sortT ts).map tupD)) else none
  | _ => none
end L4
end
section
set_option Elab.async false
set_option linter.all false
set_option maxRecDepth 100000
namespace L4
open PySem L3
noncomputable def eqPs (f : D → D → Option Bool) : List D → List D → Option Bool
  | d :: ds, e :: es => (f d e).bind fun x => (eqPs f ds es).map (x && ·)
  | _, _ => some true
noncomputable def eqP : Nat → D → D → Option Bool
  | _, .int i, .int j => some (decide (i = j))
  | _, .bl i, .bl j => if i = j then some true else none
  | _, .str i, .str j => if i = j then some true else none
  | n + 1, .tup a, .tup b => (eqPs (eqP n) a b).map fun r => r && decide (a.length = b.length)
  | _, _, _ => none
noncomputable def eqTM : D → D → Option D := fun x y => (eqP 8 x y).map D.bl
end L4
end
section
set_option Elab.async false
set_option linter.all false
set_option maxRecDepth 100000
namespace L4
open PySem L3
noncomputable def frzM (ρ : SEnv) (i : Nat) : SEnv := match ρ[i]? with
  | some (.ow d) => ρ.set i (.ro d)
  | _ => ρ
noncomputable def sFrz (i : Nat) (f : SF) : SF := fun ρ => f (frzM ρ i)
noncomputable def sortUM : List D → Option D
  | [.lst [d]] => some (.lst [d])
  | ds => sortTM ds
end L4
namespace L4
open PySem L3
noncomputable def sumTM : List D → Option D
  | [.tup a] => (intsOf a).map fun ns => .int ns.sum
  | _ => none
end L4
end
section
set_option Elab.async false
set_option linter.all false
set_option maxRecDepth 100000
namespace L4
open PySem L3
noncomputable abbrev RF := DEnv → Option Str
noncomputable def exOf : M D → Option Str
  | .ex c => some c
  | _ => none
noncomputable def rCall (R : FnF) (t : AF) : RF := fun ρ => (t ρ).bind fun ds => exOf (R ds)
noncomputable def sThr (r : RF) (f : SF) : SF := fun ρ => match r (vAll ρ) with
  | some c => .ex c
  | none => f ρ
end L4
namespace L4
open PySem L3
noncomputable def sRaiseA (t : AF) (c : Str) : SF := fun ρ => match t (vAll ρ) with
  | some ds => if ds.length ≤ 10 then .ex c else .no
  | none => .no
end L4
namespace L4
open PySem L3
end L4
namespace L4
open PySem L3
noncomputable def sTry (fb : SF) (fh : Str → Option D) : SF := fun ρ => match fb ρ with
  | .ex c => (match fh c with
    | some d => .rt d
    | none => .no)
  | o => o
end L4
namespace L4
open PySem L3
noncomputable def powGM : D → D → Option D := intMC (fun i j => decide (0 ≤ j) && decide (j ≤ 100) && decide (i.natAbs < 2 ^ 1000)) fun i j => .int (i ^ j.toNat)
end L4
end
section
set_option Elab.async false
set_option linter.all false
set_option maxRecDepth 100000
namespace L4
open PySem L3
noncomputable def rNext (f : EF) (r : RF) : RF := fun ρ => (f ρ).bind fun _ => r ρ
noncomputable def splitM : D → D → Option D
  | .str x, .str y => if x.length + 2 ≤ szL ∧ (y.length == 0) = false then some (.lst ((Txt.split x y).map D.str)) else none
  | _, _ => none
end L4
end
section
set_option Elab.async false
set_option linter.all false
set_option maxRecDepth 100000
namespace L4
open PySem L3
noncomputable def xIns (i : Nat) (fa fb : EF) : XF := fun ρ => (ownL ρ[i]?).bind fun ds => (fa (vAll ρ)).bind fun k => (asInt k).bind fun kk => (fb (vAll ρ)).bind fun d =>
  if d.imm = true ∧ 0 ≤ kk ∧ kk ≤ (ds.length : Int) ∧ ds.length < szL then some (ρ.set i (.ow (.lst (ds.take kk.toNat ++ d :: ds.drop kk.toNat))), .non) else none
noncomputable def revSM : D → Option D
  | .lst ds => some (.lst ds.reverse)
  | _ => none
noncomputable def eRevS (f : EF) : EF := fun ρ => (f ρ).bind revSM
noncomputable def gPut (i : Nat) (k : EF) : GSF := fun d ρ => (ownL ρ[i]?).bind fun ds => (k (vAll ρ)).bind fun kd => (asInt kd).bind fun kk => (ixP ds.length kk).map fun j => ρ.set i (.ow (.lst (ds.set j d)))
noncomputable def gTwo (g h : GSF) : GSF := fun d ρ => (pairM d).bind fun p => (g p.1 ρ).bind fun ρ1 => h p.2 ρ1
noncomputable def sAsg (x : XF) (g : GSF) : SF := fun ρ => match (x ρ).bind fun p => g p.2 p.1 with
  | some ρ' => .nx ρ'
  | none => .no
noncomputable def eqLB : D → D → Option Bool
  | .lst a, .lst b => (intsOf a).bind fun x => (intsOf b).map fun y => decide (x = y)
  | _, _ => none
noncomputable def neLM : D → D → Option D := fun x y => (eqLB x y).map fun b => .bl (!b)
end L4
end
section
set_option Elab.async false
set_option linter.all false
set_option maxRecDepth 100000
namespace L4
open PySem L3
end L4
end
section
set_option Elab.async false
set_option linter.all false
set_option maxRecDepth 100000
namespace L4
open PySem L3
end L4
end
section
set_option Elab.async false
set_option linter.all false
set_option maxRecDepth 100000
namespace L4
open PySem L3
noncomputable def putN (ns : List Int) (k : Int) : List Int := if k ∈ ns then ns else ns ++ [k]
noncomputable def nubI (ns : List Int) : List Int := ns.foldl putN []
end L4
end
section
set_option Elab.async false
set_option linter.all false
set_option maxRecDepth 100000
namespace L4
open PySem L3
noncomputable def sPar (i j : Nat) (t : AF) : SF := fun ρ => match t (vRd ρ) with
  | some [x, y] => .nx ((ρ.set i (.ro x)).set j (.ro y))
  | _ => .no
end L4
end
section
set_option Elab.async false
set_option linter.all false
set_option maxRecDepth 100000
namespace L4
open PySem L3
noncomputable def sortedPM : List D → Option D
  | [.tup ds] => (intsOf ds).bind fun ns => if ns.length < 64 then some (.lst ((sortI ns).map D.int)) else none
  | _ => none
end L4
end
section
set_option Elab.async false
set_option linter.all false
namespace L4
open PySem L3
noncomputable abbrev anyO : Nat → Obj → Prop := fun _ _ => True
noncomputable def adr (q : Nat → Obj → Prop) : Nat → Obj → Prop := fun a _ => ∃ o, q a o
noncomputable abbrev PKey := Sum Int Str
noncomputable abbrev PN1 := List (Sum PKey (List PKey))
noncomputable abbrev PKX := Sum PKey PN1
noncomputable def keysD : List D → Option (List PKey)
  | [] => some []
  | d :: ds => (keyM d).bind fun k => (keysD ds).map (k :: ·)
noncomputable def itemD : D → Option (Sum PKey (List PKey))
  | .tup ds => (keysD ds).map .inr
  | d => (keyM d).map .inl
noncomputable def itemsD : List D → Option PN1
  | [] => some []
  | d :: ds => (itemD d).bind fun k => (itemsD ds).map (k :: ·)
noncomputable def keyX : D → Option PKX
  | .tup ds => (itemsD ds).map .inr
  | d => (keyM d).map .inl
noncomputable def lookX (ks : List PKX) (ds : List D) (k : PKX) : Option D := ((ks.zip ds).find? fun p => decide (p.1 = k)).map (·.2)
noncomputable def kindB (ks : List PKX) (k : PKX) : Bool := ks.all fun q => q.isLeft == k.isLeft
noncomputable def ixXM : D → D → Option D
  | .dicT _ ks ds, d => (keyX d).bind fun k => if kindB ks k = true then lookX ks ds k else none
  | _, _ => none
noncomputable def inXM (neg : Bool) : D → D → Option D
  | d, .dicT _ ks ds => (keyX d).bind fun k => if kindB ks k = true then some (.bl (if neg then !(lookX ks ds k).isSome else (lookX ks ds k).isSome)) else none
  | _, _ => none
noncomputable def putX (ks : List PKX) (ds : List D) (k : PKX) (v : D) : List PKX × List D :=
  if ks.any (fun q => decide (q = k)) = true then (ks, (ks.zip ds).map fun p => if p.1 = k then v else p.2) else (ks ++ [k], ds ++ [v])
noncomputable def ownX : Option Sv → Option ((Nat → Obj → Prop) × List PKX × List D)
  | some (.ow (.dicT q ks ds)) => some (q, ks, ds)
  | _ => none
noncomputable def sOwnX (i : Nat) : SF := fun ρ => .nx (ρ.set i (.ow (.dicT anyO [] [])))
noncomputable def sPutX (i : Nat) (x : XF) (k : EF) : SF := fun ρ => match ((x ρ).bind fun p => (ownX p.1[i]?).bind fun kd => (k (vAll p.1)).bind fun kv => (keyX kv).bind fun kk =>
    if kindB kd.2.1 kk = true ∧ kd.2.2.length < szL then some (p.1.set i (.ow (.dicT (adr kd.1) (putX kd.2.1 kd.2.2 kk p.2).1 (putX kd.2.1 kd.2.2 kk p.2).2))) else none) with
  | some ρ' => .nx ρ'
  | none => .no
noncomputable def zipLM : List D → Option (List D)
  | [.lst xs, .lst ys] => some ((xs.zip ys).map fun p => .tup [p.1, p.2])
  | _ => none
noncomputable def iZipL (t : AF) : AF := fun ρ => (t ρ).bind zipLM
noncomputable def minP : List Int → Int
  | [] => 0
  | a :: l => l.foldl (fun m b => if b < m then b else m) a
noncomputable def min1M : List D → Option D
  | [.tup ds] => (intsOf ds).bind fun ns => if ns = [] then none else some (.int (minP ns))
  | _ => none
noncomputable def eqLM : D → D → Option D := fun x y => (eqLB x y).map D.bl
noncomputable abbrev KD := List PKX × List D
noncomputable abbrev FnM := List D → KD → M (D × KD)
noncomputable def startM (n : Nat) (ds : List D) (q : Nat → Obj → Prop) (kd : KD) : SEnv := ds.map Sv.ro ++ Sv.ow (.dicT q kd.1 kd.2) :: List.replicate (n - (ds.length + 1)) Sv.no
noncomputable def retM (j : Nat) (k : EF) (q : Nat → Obj → Prop) : SEnv → Option (D × KD) := fun ρ => (ownX ρ[j]?).bind fun kd => (k (vRd ρ)).bind fun kv => (keyX kv).bind fun kk => @ite _ (kindB kd.2.1 kk = true ∧ ∀ a o, kd.1 a o → ∃ o2, q a o2) (Classical.propDecidable _) ((lookX kd.2.1 kd.2.2 kk).map fun d => (d, kd.2)) none
noncomputable def bodyM (n np : Nat) (b : SF) (k : EF) (q : Nat → Obj → Prop) (ds : List D) (kd : KD) : Option (D × KD) := if ds.length + 1 = np then (match b (startM n ds q kd) with
  | .nx ρ => retM (np - 1) k q ρ
  | _ => none) else none
noncomputable def runM (n np : Nat) (b : SF) (k : EF) : FnM := fun ds kd => @dite _ (∃ r, ∀ q, bodyM n np b k q ds kd = some r) (Classical.propDecidable _) (fun h => .ok h.choose) fun _ => .no
noncomputable def stepM (R : FnM) (t : AF) (j : Nat) (ρ : SEnv) : Option ((Nat → Obj → Prop) × D × KD) := (t (vRd ρ)).bind fun ds => (ownX ρ[j]?).bind fun kd => match R ds kd.2 with
  | .ok r => some (kd.1, r)
  | _ => none
noncomputable def sCallM (i : Nat) (R : FnM) (t : AF) (j : Nat) : SF := fun ρ => match stepM R t j ρ with
  | some r => .nx ((ρ.set j (.ow (.dicT (adr r.1) r.2.2.1 r.2.2.2))).set i (.ro r.2.1))
  | none => .no
noncomputable def sDoM (R : FnM) (t : AF) (j : Nat) : SF := fun ρ => match stepM R t j ρ with
  | some r => .nx (ρ.set j (.ow (.dicT (adr r.1) r.2.2.1 r.2.2.2)))
  | none => .no
end L4
end
section
set_option Elab.async false
set_option linter.all false
namespace L4
open PySem L3
end L4
end
section
set_option Elab.async false
set_option linter.all false
set_option maxRecDepth 100000
namespace L4
open PySem L3
end L4
end
section
set_option Elab.async false
set_option linter.all false
set_option maxRecDepth 100000
namespace L4
open PySem L3
end L4
end
section
set_option Elab.async false
set_option linter.all false
set_option maxRecDepth 100000
namespace L4
open PySem L3
end L4
end
section
set_option Elab.async false
set_option linter.all false
set_option maxRecDepth 100000
namespace L4
open PySem L3
end L4
end
section
set_option Elab.async false
set_option linter.all false
namespace L4
open PySem L3
end L4
end
section
set_option Elab.async false
set_option linter.all false
namespace L4
open PySem L3
end L4
end
section
set_option Elab.async false
set_option linter.all false
namespace L4
open PySem L3
noncomputable def lstsI (xs : List (List Int)) : List D := xs.map fun x => .lst (x.map D.int)
noncomputable def castS (ρ : SEnv) (i : Nat) : SEnv := match ρ[i]? with
  | some (.ow (.rws xs)) => ρ.set i (.ow (.lst (lstsI xs)))
  | _ => ρ
noncomputable def sCast (i : Nat) (f : SF) : SF := fun ρ => f (castS ρ i)
noncomputable def xPureL (f : EF) : XF := fun ρ => (f (vAll ρ)).bind fun d => if lstImm d = true then some (ρ, d) else none
noncomputable def lstInts : D → Option (List Int)
  | .lst ys => intsOf ys
  | _ => none
noncomputable def rowsC (g : GEF) (e : EF) (ρ : DEnv) : List D → Option (List (List Int))
  | [] => some []
  | d :: r => (g d ρ).bind fun ρ2 => (e ρ2).bind fun y => (lstInts y).bind fun x => (rowsC g e ρ r).map (x :: ·)
noncomputable def slLM (d : D) (lo hi : Option Int) : Option D := match d with
  | .lst ds => some (.lst (cutP ds lo hi))
  | _ => none
noncomputable def eSlL (f : EF) (lo hi : OF) : EF := fun ρ => (f ρ).bind fun d => (lo ρ).bind fun l => (hi ρ).bind fun h => slLM d l h
noncomputable def sRows (i nl : Nat) (fr : List Nat) (it : AF) (g : GEF) (e : EF) : SF := fun ρ => match ((it (vRd ρ)).bind fun ds => if ds.length ≤ szL then rowsC g e (benv nl fr (vRd ρ)) ds else none) with
  | some xs => .nx (ρ.set i (.ow (.rws xs)))
  | none => .no
noncomputable def ownR : Option Sv → Option (List (List Int))
  | some (.ow (.rws xs)) => some xs
  | _ => none
noncomputable def rowIns (n i : Nat) (fb fk fe : EF) (ρ : SEnv) : Option SEnv := (ownR ρ[i]?).bind fun xs => (fb (vAll (castS ρ i))).bind fun b => (asInt b).bind fun bi => (ixP xs.length bi).bind fun j => (xs[j]?).bind fun r => (fk (vAll (castS ρ i))).bind fun k => (asInt k).bind fun kk =>
  (fe (vAll (castS ρ i))).bind fun y => (asInt y).bind fun yy => if 0 ≤ kk ∧ kk ≤ (r.length : Int) ∧ r.length < szL then some ((List.replicate n Sv.no).set i (.ow (.lst (lstsI (xs.set j (r.take kk.toNat ++ yy :: r.drop kk.toNat)))))) else none
noncomputable def sRowIns (n i : Nat) (fb fk fe : EF) : SF := fun ρ => match rowIns n i fb fk fe ρ with
  | some ρ' => .nx ρ'
  | none => .no
end L4
end
section
set_option Elab.async false
set_option linter.all false
set_option maxRecDepth 100000
namespace Ord
structure Rows (rows : List (List Int)) : Prop where
  up : ∀ (b : Nat) (r : List Int), rows[b]? = some r → r.Pairwise (· < ·)
  rng : ∀ (b : Nat) (r : List Int), rows[b]? = some r → ∀ a ∈ r, 0 ≤ a ∧ a < (rows.length : Int)
  tr : ∀ (b a : Nat) (r v : List Int), rows[b]? = some r → (a : Int) ∈ r → rows[a]? = some v → ∀ c ∈ v, c ∈ r
  irr : ∀ (b : Nat) (r : List Int), rows[b]? = some r → (b : Int) ∉ r
theorem cons_erase {α : Type} : ∀ (l : List α) (j : Nat) (x : α), l[j]? = some x → (x :: l.eraseIdx j).Perm l
  | [], j, x, h => by simp at h
  | a :: l, 0, x, h => by simp at h; subst h; simp
  | a :: l, j + 1, x, h => by
    have ih := cons_erase l j x (by simpa using h)
    rw [List.eraseIdx_cons_succ]
    exact (List.Perm.swap a x _).trans (ih.cons a)
theorem nodup_filter {l : List Int} (p : Int → Bool) (h : l.Nodup) : (l.filter p).Nodup := List.Pairwise.filter p h
noncomputable def Under (word : List Int) (us : List (List Int)) (t : Nat) (u : List Int) : Prop :=
  u.Nodup ∧ ∀ a ∈ u, ∃ (s : Nat) (v : List Int), s < t ∧ word[s]? = some a ∧ us[s]? = some v ∧ ∀ c ∈ v, c ∈ u
noncomputable def Good (word : List Int) (us : List (List Int)) : Prop := ∀ (t : Nat) (u : List Int), us[t]? = some u → Under word us t u
theorem Under.mono {word : List Int} {us : List (List Int)} {t t' : Nat} {u : List Int} (h : Under word us t u) (ht : t ≤ t') : Under word us t' u :=
  ⟨h.1, fun a ha => by obtain ⟨s, v, h1, h2, h3, h4⟩ := h.2 a ha; exact ⟨s, v, by omega, h2, h3, h4⟩⟩
theorem ix_inj {word : List Int} (h : word.Nodup) {i j : Nat} {a : Int} (hi : word[i]? = some a) (hj : word[j]? = some a) : i = j := by
  obtain ⟨h1, e1⟩ := List.getElem?_eq_some_iff.mp hi
  obtain ⟨h2, e2⟩ := List.getElem?_eq_some_iff.mp hj
  exact (List.getElem_inj h).mp (e1.trans e2.symm)
theorem Under.step {word : List Int} {us : List (List Int)} {i : Nat} {u v : List Int} {x : Int} (hw : word.Nodup) (g : Good word us) (h : Under word us i u) (hx : word[i]? = some x) (hv : us[i]? = some v) :
    Under word us (i + 1) (u ++ (v ++ [x]).filter fun a => !u.contains a) := by
  have gv := g i v hv
  have mem : ∀ c, c ∈ v ++ [x] → c ∈ u ++ (v ++ [x]).filter fun a => !u.contains a := fun c hc => by
    by_cases hu : c ∈ u
    · exact List.mem_append_left _ hu
    · exact List.mem_append_right _ (List.mem_filter.mpr ⟨hc, by simpa using hu⟩)
  have nv : (v ++ [x]).Nodup := by
    refine List.nodup_append.mpr ⟨gv.1, by simp, fun a ha b hb e => ?_⟩
    have hb := List.mem_singleton.mp hb
    subst hb
    subst e
    obtain ⟨s, _, h1, h2, _⟩ := gv.2 a ha
    have := ix_inj hw h2 hx
    omega
  refine ⟨List.nodup_append.mpr ⟨h.1, nodup_filter _ nv, fun a ha b hb e => ?_⟩, fun a ha => ?_⟩
  · subst e
    have := (List.mem_filter.mp hb).2
    simp at this
    exact this ha
  · rcases List.mem_append.mp ha with h1 | h1
    · obtain ⟨s, z, a1, a2, a3, a4⟩ := h.2 a h1
      exact ⟨s, z, by omega, a2, a3, fun c hc => List.mem_append_left _ (a4 c hc)⟩
    · rcases List.mem_append.mp (List.mem_filter.mp h1).1 with h2 | h2
      · obtain ⟨s, z, a1, a2, a3, a4⟩ := gv.2 a h2
        exact ⟨s, z, by omega, a2, a3, fun c hc => mem c (List.mem_append_left _ (a4 c hc))⟩
      · have e := List.mem_singleton.mp h2
        subst e
        exact ⟨i, v, by omega, hx, hv, fun c hc => mem c (List.mem_append_left _ hc)⟩
theorem Good.snoc {word : List Int} {us : List (List Int)} {u : List Int} (g : Good word us) (h : Under word us us.length u) : Good word (us ++ [u]) := fun t z e => by
  have old : ∀ {s : Nat} {v : List Int}, us[s]? = some v → (us ++ [u])[s]? = some v := fun {s v} e => by rw [List.getElem?_append_left (List.getElem?_eq_some_iff.mp e).1]; exact e
  have up : ∀ {t : Nat} {z : List Int}, Under word us t z → Under word (us ++ [u]) t z := fun {t z} q => ⟨q.1, fun a ha => by obtain ⟨s, v, a1, a2, a3, a4⟩ := q.2 a ha; exact ⟨s, v, a1, a2, old a3, a4⟩⟩
  by_cases ht : t < us.length
  · rw [List.getElem?_append_left ht] at e
    exact up (g t z e)
  · have et : t = us.length := by
      have := (List.getElem?_eq_some_iff.mp e).1
      simp at this
      omega
    subst et
    rw [List.getElem?_append_right (Nat.le_refl _), Nat.sub_self] at e
    have e : u = z := by simpa using e
    subst e
    exact up h
theorem Good.rows {word : List Int} {us rows : List (List Int)} {n : Nat} (g : Good word us) (hu : us.length = n) (hw : word.Perm ((List.range n).map fun k : Nat => (k : Int))) (hr : rows.length = n)
    (h : ∀ (b t : Nat) (r u : List Int), rows[b]? = some r → word[t]? = some (b : Int) → us[t]? = some u → r.Perm u ∧ r.Pairwise (· ≤ ·)) : Rows rows := by
  have nd : word.Nodup := hw.nodup_iff.mpr (by
    refine List.Pairwise.map _ (fun a b hab => ?_) List.nodup_range
    intro e
    exact hab (by omega))
  have find : ∀ (b : Nat), b < n → ∃ t u, word[t]? = some (b : Int) ∧ us[t]? = some u := fun b hb => by
    have hm : (b : Int) ∈ word := hw.mem_iff.mpr (List.mem_map.mpr ⟨b, List.mem_range.mpr hb, rfl⟩)
    obtain ⟨t, ht⟩ := List.mem_iff_getElem?.mp hm
    have hl : word.length = n := by rw [hw.length_eq, List.length_map, List.length_range]
    have := (List.getElem?_eq_some_iff.mp ht).1
    exact ⟨t, us[t]'(by omega), ht, List.getElem?_eq_getElem (by omega)⟩
  have row : ∀ (b : Nat) (r : List Int), rows[b]? = some r → ∃ t u, word[t]? = some (b : Int) ∧ us[t]? = some u ∧ r.Perm u ∧ r.Pairwise (· ≤ ·) := fun b r e => by
    have hb := (List.getElem?_eq_some_iff.mp e).1
    obtain ⟨t, u, h1, h2⟩ := find b (by omega)
    exact ⟨t, u, h1, h2, h b t r u e h1 h2⟩
  refine ⟨fun b r e => ?_, fun b r e a ha => ?_, fun b a r v e ha ev c hc => ?_, fun b r e hb => ?_⟩
  · obtain ⟨t, u, h1, h2, h3, h4⟩ := row b r e
    have n1 : r.Nodup := h3.nodup_iff.mpr (g t u h2).1
    exact (List.pairwise_and_iff.mpr ⟨h4, n1⟩).imp fun q => by have := q.1; have := q.2; omega
  · obtain ⟨t, u, h1, h2, h3, h4⟩ := row b r e
    obtain ⟨s, z, _, a2, _⟩ := (g t u h2).2 a (h3.mem_iff.mp ha)
    have hm := hw.mem_iff.mp (List.mem_of_getElem? a2)
    obtain ⟨k, hk, rfl⟩ := List.mem_map.mp hm
    have := List.mem_range.mp hk
    omega
  · obtain ⟨t, u, h1, h2, h3, h4⟩ := row b r e
    obtain ⟨t2, u2, k1, k2, k3, k4⟩ := row a v ev
    obtain ⟨s, z, _, a2, a3, a4⟩ := (g t u h2).2 _ (h3.mem_iff.mp ha)
    have es := ix_inj nd a2 k1
    subst es
    rw [k2] at a3
    cases a3
    exact h3.mem_iff.mpr (a4 c (k3.mem_iff.mp hc))
  · obtain ⟨t, u, h1, h2, h3, h4⟩ := row b r e
    obtain ⟨s, z, a1, a2, _⟩ := (g t u h2).2 _ (h3.mem_iff.mp hb)
    have := ix_inj nd a2 h1
    omega
noncomputable def tri : Nat → Nat
  | 0 => 0
  | j + 1 => tri j + j
theorem tri_le {i j : Nat} (h : i ≤ j) : tri i ≤ tri j := by
  induction h with
  | refl => exact Nat.le_refl _
  | step _ ih => exact Nat.le_trans ih (Nat.le_add_right _ _)
theorem tri_lt {n j i : Nat} (hj : j < n) (hi : i < j) : tri j + i < tri n := by
  have := tri_le (show j + 1 ≤ n by omega)
  show tri j + i < tri n
  have e : tri (j + 1) = tri j + j := rfl
  omega
theorem length_sub : ∀ (l m : List Int), l.Nodup → (∀ a ∈ l, a ∈ m) → l.length ≤ m.length
  | [], m, _, _ => Nat.zero_le _
  | a :: l, m, h, hs => by
    obtain ⟨h1, h2⟩ := List.nodup_cons.mp h
    have ha := hs a List.mem_cons_self
    have ih := length_sub l (m.erase a) h2 fun b hb => by
      have : b ≠ a := fun e => h1 (e ▸ hb)
      exact (List.mem_erase_of_ne this).mpr (hs b (List.mem_cons_of_mem _ hb))
    rw [List.length_erase_of_mem ha] at ih
    have : 0 < m.length := List.length_pos_of_mem ha
    rw [List.length_cons]
    omega
end Ord
end
section
set_option Elab.async false
set_option linter.all false
set_option maxRecDepth 100000
namespace LL
open PySem L3 L4
noncomputable def f_l_cell : FnF := runF 2 2
    (sSeq (sIf (tV (eBin eqM (eCB lenM (aCons (eVar 0) aNil)) (eC (.int 0))))
      (sRet (eC (.int 0)))
      sEnd)
    (sRet (eBin ixM (eVar 0) (eBin modM (eVar 1) (eCB lenM (aCons (eVar 0) aNil))))))
noncomputable def f_l_mixed : FnF := runF 5 3
    (sSeq (sSet 3 (eBin modM (eBin mulM (eBin addM (eBin addM (eBin addM (eVar 0) (eBin mulM (eBin mulM (eC (.int 11)) (eVar 1)) (eVar 1))) (eBin mulM (eC (.int 17)) (eVar 1))) (eVar 2)) (eC (.int 48271))) (eC (.int 2147483647))))
    (sSeq (sSet 4 (eBin modM (eBin addM (eBin addM (eBin mulM (eVar 3) (eBin addM (eBin divM (eVar 3) (eC (.int 4096))) (eC (.int 5)))) (eBin mulM (eC (.int 29)) (eVar 1))) (eVar 2)) (eC (.int 2147483629))))
    (sRet (eBin modM (eBin mulM (eVar 4) (eC (.int 39373))) (eC (.int 1000000007))))))
noncomputable def f_l_draws : FnF := runF 6 3
    (sSeq (sOwn 3 (eLst aNil))
    (sSeq (sSet 4 (eC (.int 0)))
    (sSeq (sIf (tV (eBin geM (eVar 0) (eBin powM (eC (.int 10)) (eC (.int 18)))))
      (sSet 4 (eVar 0))
      sEnd)
    (sSeq (sFor (iRange (aCons (eVar 1) aNil)) (gN1 5)
      (sIf (tV (eBin gtM (eVar 4) (eC (.int 0))))
        (sSeq (sX (xM1 3 appM (xPureR (eBin modM (eVar 4) (eC (.int 64))))))
        (sSet 4 (eBin divM (eVar 4) (eC (.int 64)))))
        (sX (xM1 3 appM (xPureR (eCall LL.f_l_mixed (aCons (eVar 0) (aCons (eVar 5) (aCons (eVar 2) aNil)))))))))
    (sRet (eVar 3))))))
noncomputable def f_l_same : Nat → FnF
  | 0 => fun _ => .no
  | n + 1 => runF 2 2
    (sSeq (sIf (tV (eIsi "tuple" (eVar 1)))
      (sSeq (sIf (tOr (tNot (tV (eIsi "tuple" (eVar 0)))) (tV (eBin neM (eCB lenM (aCons (eVar 0) aNil)) (eCB lenM (aCons (eVar 1) aNil)))))
        (sRet (eC (.bl false)))
        sEnd)
      (sRet (eCB allM (aCons (eComp 1 [0, 1] (iRange (aCons (eCB lenM (aCons (eVar 1) aNil)) aNil)) (g1 0) tTrue (eCall (f_l_same n) (aCons (eBin ixM (eVar 1) (eVar 0)) (aCons (eBin ixM (eVar 2) (eVar 0)) aNil)))) aNil))))
      sEnd)
    (sSeq (sIf (tV (eBin isM (eVar 1) (eC .non)))
      (sRet (eBin isM (eVar 0) (eC .non)))
      sEnd)
    (sSeq (sIf (tV (eIsi "bool" (eVar 1)))
      (sRet (eAnd (eIsi "bool" (eVar 0)) (eBin eqM (eVar 0) (eVar 1))))
      sEnd)
    (sSeq (sIf (tV (eIsi "int" (eVar 1)))
      (sRet (eAnd (eIsi "int" (eVar 0)) (eAnd (eNot (eIsi "bool" (eVar 0))) (eBin eqM (eVar 0) (eVar 1)))))
      sEnd)
    (sRet (eAnd (eIsi "str" (eVar 0)) (eBin eqM (eVar 0) (eVar 1))))))))
noncomputable def f_l_order : FnF := runF 11 3
    (sSeq (sOwn 3 (eListR (aCons (eVar 1) aNil)))
    (sSeq (sOwn 4 (eLst aNil))
    (sSeq (sFor (iRange (aCons (eVar 1) aNil)) (gN1 5)
      (sX (xM1 4 appM (xM1 3 popM (xPure (eBin modM (eBin ixM (eVar 0) (eVar 5)) (eCB lenM (aCons (eVar 3) aNil))))))))
    (sSeq (sOwnD 6)
    (sSeq (sSet 7 (eVar 1))
    (sSeq (sFor (iRange (aCons (eVar 1) aNil)) (gN1 8)
      (sSeq (sSet 9 (eLst aNil))
      (sSeq (sFor (iRange (aCons (eVar 8) aNil)) (gN1 10)
        (sSeq (sIf (tV (eBin ltM (eBin modM (eBin ixM (eVar 0) (eVar 7)) (eC (.int 4))) (eVar 2)))
          (sSetF 9 (eBin catM (eVar 9) (eComp 1 [9] (iWalk (eBin addM (eBin ixDM (eVar 6) (eBin ixM (eVar 4) (eVar 10))) (eLst (aCons (eBin ixM (eVar 4) (eVar 10)) aNil)))) (g1 0) (tV (eBin (inM true) (eVar 0) (eVar 1))) (eVar 0))))
          sEnd)
        (sSet 7 (eBin addM (eVar 7) (eC (.int 1))))))
      (sPutN 6 (xPureR (eVar 9)) (eBin ixM (eVar 4) (eVar 8))))))
    (sRet (eCB tupleM (aCons (eComp 1 [6] (iRange (aCons (eVar 1) aNil)) (g1 0) tTrue (eCB tupleM (aCons (eCB sortedM (aCons (eBin ixDM (eVar 1) (eVar 0)) aNil)) aNil))) aNil)))))))))
noncomputable def f_l_drawn : FnF := runF 7 4
    (sSeq (sSet 4 (eCall LL.f_l_draws (aCons (eCall LL.f_l_cell (aCons (eVar 0) (aCons (eVar 1) aNil))) (aCons (eC (.int 4)) (aCons (eVar 3) aNil)))))
    (sSeq (sSet 5 (eBin modM (eBin ixM (eVar 4) (eC (.int 0))) (eBin addM (eVar 2) (eC (.int 1)))))
    (sSeq (sSet 6 (eCall LL.f_l_draws (aCons (eCall LL.f_l_cell (aCons (eVar 0) (aCons (eBin addM (eVar 1) (eC (.int 1))) aNil))) (aCons (eBin addM (eVar 5) (eBin divM (eBin mulM (eVar 5) (eBin subM (eVar 5) (eC (.int 1)))) (eC (.int 2)))) (aCons (eBin addM (eVar 3) (eC (.int 10007))) aNil)))))
    (sRet (eCall LL.f_l_order (aCons (eVar 6) (aCons (eVar 5) (aCons (eBin ixM (eLst (aCons (eC (.int 1)) (aCons (eC (.int 1)) (aCons (eC (.int 2)) (aCons (eC (.int 2)) (aCons (eC (.int 3)) (aCons (eC (.int 1)) (aCons (eC (.int 0)) (aCons (eC (.int 4)) aNil))))))))) (eBin modM (eBin ixM (eVar 4) (eC (.int 1))) (eC (.int 8)))) aNil))))))))
end LL
end
section
set_option Elab.async false
set_option linter.all false
set_option maxRecDepth 100000
set_option maxHeartbeats 999999
namespace LL
open PySem L3 L4
noncomputable def tupI (xs : List Int) : D := .tup (xs.map D.int)
noncomputable def lstI (xs : List Int) : D := .lst (xs.map D.int)
noncomputable def ordD (rows : List (List Int)) : D := .tup (rows.map tupI)
theorem addM_int {i j : Int} : addM (.int i) (.int j) = some (.int (i + j)) := rfl
theorem subM_int {i j : Int} : subM (.int i) (.int j) = some (.int (i - j)) := rfl
theorem modM_int {i j : Int} (h : 0 < j) : modM (.int i) (.int j) = some (.int (i % j)) := by simp [modM, intMC, h]
theorem divM_int {i j : Int} (h : 0 < j) (h2 : j < 1073741824) : divM (.int i) (.int j) = some (.int (i / j)) := by simp [divM, intMC, h, show j.natAbs < 1073741824 by omega]
theorem ltM_int {i j : Int} : ltM (.int i) (.int j) = some (.bl (decide (i < j))) := rfl
theorem leM_int {i j : Int} : leM (.int i) (.int j) = some (.bl (decide (i ≤ j))) := rfl
theorem gtM_int {i j : Int} : gtM (.int i) (.int j) = some (.bl (decide (j < i))) := rfl
theorem geM_int {i j : Int} : geM (.int i) (.int j) = some (.bl (decide (j ≤ i))) := rfl
theorem eqM_int {i j : Int} : eqM (.int i) (.int j) = some (.bl (decide (i = j))) := rfl
theorem neM_int {i j : Int} : neM (.int i) (.int j) = some (.bl (!decide (i = j))) := rfl
theorem eqM_bl {i j : Bool} : eqM (.bl i) (.bl j) = some (.bl (decide (i = j))) := rfl
theorem eqM_str {i j : Str} : eqM (.str i) (.str j) = some (.bl (decide (i = j))) := rfl
theorem isM_non {d : D} : isM d .non = some (.bl (isNon d)) := rfl
theorem ixM_lst {a : List D} {i : Int} : ixM (.lst a) (.int i) = atP a i := rfl
theorem ixM_tup {a : List D} {i : Int} : ixM (.tup a) (.int i) = atP a i := rfl
theorem ixM_scr {a : List Int} {i : Int} : ixM (.scr a) (.int i) = (atP a i).map D.int := rfl
theorem lenM_lst {a : List D} : lenM [.lst a] = some (.int a.length) := rfl
theorem lenM_tup {a : List D} : lenM [.tup a] = some (.int a.length) := rfl
theorem lenM_scr {a : List Int} : lenM [.scr a] = some (.int a.length) := rfl
theorem tupleM_lst {a : List D} : tupleM [.lst a] = some (.tup a) := rfl
theorem tupleM_tup {a : List D} : tupleM [.tup a] = some (.tup a) := rfl
theorem listM_lst {a : List D} : listM [.lst a] = some (.lst a) := rfl
theorem listM_tup {a : List D} : listM [.tup a] = some (.lst a) := rfl
theorem walkM_lst {a : List D} : walkM (.lst a) = some a := rfl
theorem walkM_tup {a : List D} : walkM (.tup a) = some a := rfl
theorem truthM_bl {b : Bool} : truthM (.bl b) = some b := rfl
theorem truthM_lst {b : List D} : truthM (.lst b) = some (!b.isEmpty) := rfl
theorem truthM_tup {b : List D} : truthM (.tup b) = some (!b.isEmpty) := rfl
theorem boolM_bl {b : Bool} : boolM (.bl b) = some b := rfl
theorem appM_ok {ds : List D} {d : D} (h : ds.length < 16777216) : appM ds d = some (ds ++ [d], .non) := if_pos h
theorem enumM_tup {ds : List D} : enumM [.tup ds] = some (ds.zipIdx.map fun p => .tup [.int (p.2 : Int), p.1]) := rfl
theorem enumM_lst {ds : List D} : enumM [.lst ds] = some (ds.zipIdx.map fun p => .tup [.int (p.2 : Int), p.1]) := rfl
theorem revM_tup {ds : List D} : revM [.tup ds] = some ds.reverse := rfl
theorem revM_lst {ds : List D} : revM [.lst ds] = some ds.reverse := rfl
theorem runE {n np : Nat} {b : SF} {ds : List D} {d : D} (hl : ds.length = np) (h : b (startS n ds) = .rt d) : runF n np b ds = .ok d := by
  unfold runF; rw [if_pos hl, h]
theorem seqE {f g : SF} {ρ : SEnv} {o : Out} (ρ' : SEnv) (h1 : f ρ = .nx ρ') (h2 : g ρ' = o) : sSeq f g ρ = o := by
  unfold sSeq; rw [h1]; exact h2
theorem seqR {f g : SF} {ρ : SEnv} {d : D} (h1 : f ρ = .rt d) : sSeq f g ρ = .rt d := by
  unfold sSeq; rw [h1]
theorem retE {f : EF} {ρ : SEnv} {d : D} (h : f (vAll ρ) = some d) : sRet f ρ = .rt d := by
  unfold sRet; rw [h]
theorem setE {i : Nat} {f : EF} {ρ : SEnv} (d : D) {ρ' : SEnv} (h : f (vRd ρ) = some d) (hr : ρ.set i (.ro d) = ρ') : sSet i f ρ = .nx ρ' := by
  unfold sSet; rw [h, ← hr]
theorem ifT {t : TF} {a b : SF} {ρ : SEnv} {o : Out} (h : t (vAll ρ) = some true) (h2 : a ρ = o) : sIf t a b ρ = o := by
  unfold sIf; rw [h]; exact h2
theorem ifF {t : TF} {a b : SF} {ρ : SEnv} {o : Out} (h : t (vAll ρ) = some false) (h2 : b ρ = o) : sIf t a b ρ = o := by
  unfold sIf; rw [h]; exact h2
theorem forE {it : AF} {g : GSF} {b : SF} {ρ : SEnv} {o : Out} (ds : List D) (h : it (vRd ρ) = some ds) (h2 : loopF g b ds ρ = o) : sFor it g b ρ = o := by
  unfold sFor; rw [h]; exact h2
theorem compE {nl : Nat} {fr : List Nat} {it : AF} {g : GEF} {t : TF} {e : EF} {ρ : DEnv} (ds : List D) {ys : List D} (h : it ρ = some ds) (hl : ds.length ≤ 16777216) (h2 : compF g t e (benv nl fr ρ) ds = some ys) : eComp nl fr it g t e ρ = some (.lst ys) := by
  unfold eComp; rw [h]
  show (if ds.length ≤ szL then _ else _) = _
  rw [if_pos (show ds.length ≤ szL from hl), h2]; rfl
theorem addM_lst {a b : List D} (h : a.length + b.length ≤ 16777216) : addM (.lst a) (.lst b) = some (.lst (a ++ b)) := if_pos h
theorem addM_tup {a b : List D} (h : a.length + b.length ≤ 16777216) : addM (.tup a) (.tup b) = some (.tup (a ++ b)) := if_pos h
theorem catM_lst {a b : List D} (h : a.length + b.length ≤ 16777216) : catM (.lst a) (.lst b) = some (.lst (a ++ b)) := if_pos h
theorem mulM_l {i j : Int} (h : i.natAbs < 18446744073709551616) : mulM (.int i) (.int j) = some (.int (i * j)) := by
  simp [mulM, intMC, mulOk, h]
theorem mulM_r {i j : Int} (h : j.natAbs < 18446744073709551616) : mulM (.int i) (.int j) = some (.int (i * j)) := by
  simp [mulM, intMC, mulOk, h]
theorem rangeM_1 {j : Int} (h : j.natAbs < 4611686018427387904) : rangeM [.int j] = some ((rngP 0 j.toNat).map D.int) := if_pos h
theorem rangeM_n {n : Nat} (h : n < 4611686018427387904) : rangeM [.int (n : Int)] = some ((rngP 0 n).map D.int) := by
  rw [rangeM_1 (by omega)]; rfl
theorem intsOf_map : ∀ ns : List Int, intsOf (ns.map D.int) = some ns
  | [] => rfl
  | n :: ns => by simp [intsOf, intsOf_map ns]
theorem inM_tup {neg : Bool} {i : Int} {ns : List Int} : inM neg (.int i) (.tup (ns.map D.int)) = some (.bl (if neg then !ns.contains i else ns.contains i)) := by simp [inM, intsOf_map]
theorem inM_lst {neg : Bool} {i : Int} {ns : List Int} : inM neg (.int i) (.lst (ns.map D.int)) = some (.bl (if neg then !ns.contains i else ns.contains i)) := by simp [inM, intsOf_map]
theorem sorted_ints {ns : List Int} (h : ns.length < 64) : sortedM [.lst (ns.map D.int)] = some (.lst ((sortI ns).map D.int)) := by simp [sortedM, intsOf_map, h]
theorem truths_bl : ∀ bs : List Bool, truths (bs.map D.bl) = some bs
  | [] => rfl
  | b :: bs => by simp [truths, truthM, truths_bl bs]
theorem all_bls {bs : List Bool} : allM [.lst (bs.map D.bl)] = some (.bl (bs.all id)) := by simp [allM, truths_bl]
theorem ixP_ok {n : Nat} {i : Int} (h0 : 0 ≤ i) (h1 : i < n) : ixP n i = some i.toNat := by
  unfold ixP; rw [if_pos h0, if_pos h1]
theorem ixP_nat {n k : Nat} (h : k < n) : ixP n (k : Int) = some k := by
  rw [ixP_ok (by omega) (by omega)]; rfl
theorem atP_nat {α : Type} {xs : List α} {k : Nat} (h : k < xs.length) : atP xs (k : Int) = xs[k]? := by
  unfold atP; rw [ixP_nat h]; rfl
theorem atP_ok {α : Type} {xs : List α} {i : Int} (h0 : 0 ≤ i) (h1 : i < xs.length) : ∃ x ∈ xs, atP xs i = some x ∧ xs[i.toNat]? = some x := by
  have hl : i.toNat < xs.length := by omega
  refine ⟨xs[i.toNat], List.getElem_mem hl, ?_, by simp [hl]⟩
  unfold atP; rw [ixP_ok h0 h1]; simp [hl]
theorem atP_map {α β : Type} (f : α → β) (xs : List α) (i : Int) : atP (xs.map f) i = (atP xs i).map f := by
  unfold atP
  rw [List.length_map]
  cases ixP xs.length i with
  | none => rfl
  | some j => simp
theorem atP_get {α : Type} {xs : List α} {k : Nat} {x : α} (h : xs[k]? = some x) : atP xs (k : Int) = some x := by
  rw [atP_nat (List.getElem?_eq_some_iff.mp h).1, h]
theorem rngP_length (lo : Int) (n : Nat) : (rngP lo n).length = n := by simp [rngP]
theorem rngP_get {lo : Int} {n i : Nat} (h : i < n) : (rngP lo n)[i]? = some (lo + (i : Int)) := by simp [rngP, h]
theorem rngP_succ (lo : Int) (n : Nat) : rngP lo (n + 1) = rngP lo n ++ [lo + (n : Int)] := by simp [rngP, List.range_succ]
theorem rngP_mem {lo : Int} {n : Nat} {x : Int} : x ∈ rngP lo n ↔ lo ≤ x ∧ x < lo + n := by
  unfold rngP
  rw [List.mem_map]
  simp only [List.mem_range]
  constructor
  · rintro ⟨k, hk, rfl⟩; omega
  · rintro ⟨h1, h2⟩; exact ⟨(x - lo).toNat, by omega, by omega⟩
theorem loop_ind {g : GSF} {b : SF} (P : Nat → SEnv → Prop) (ds : List D) {ρ : SEnv} (h0 : P 0 ρ) (step : ∀ (i : Nat) (d : D) (ρ : SEnv), ds[i]? = some d → P i ρ → ∃ ρ1 ρ2, g d ρ = some ρ1 ∧ b ρ1 = .nx ρ2 ∧ P (i + 1) ρ2) :
    ∃ ρ', loopF g b ds ρ = .nx ρ' ∧ P ds.length ρ' := by
  suffices H : ∀ (l : List D) (k : Nat) (ρ : SEnv), ds.drop k = l → k ≤ ds.length → P k ρ → ∃ ρ', loopF g b l ρ = .nx ρ' ∧ P ds.length ρ' from H ds 0 ρ (by simp) (Nat.zero_le _) h0
  intro l
  induction l with
  | nil =>
    intro k ρ hl hk hp
    have : ds.length ≤ k := by simpa using hl
    exact ⟨ρ, rfl, by rwa [show ds.length = k by omega]⟩
  | cons d l ih =>
    intro k ρ hl hk hp
    have hk' : k < ds.length := by
      apply Classical.byContradiction
      intro h
      rw [List.drop_eq_nil_of_le (by omega)] at hl
      cases hl
    have hd : ds[k]? = some d := by
      have := congrArg (fun x => x[0]?) hl
      simpa using this
    obtain ⟨ρ1, ρ2, e1, e2, p2⟩ := step k d ρ hd hp
    have hl2 : ds.drop (k + 1) = l := by
      rw [List.drop_eq_getElem_cons hk'] at hl
      exact (List.cons.inj hl).2
    obtain ⟨ρ', e3, p3⟩ := ih (k + 1) ρ2 hl2 hk' p2
    exact ⟨ρ', by simp only [loopF, e1, e2, e3], p3⟩
theorem loop_rng {g : GSF} {b : SF} (P : Nat → SEnv → Prop) (lo : Int) (n : Nat) {ρ : SEnv} (h0 : P 0 ρ) (step : ∀ (i : Nat) (ρ : SEnv), i < n → P i ρ → ∃ ρ1 ρ2, g (.int (lo + (i : Int))) ρ = some ρ1 ∧ b ρ1 = .nx ρ2 ∧ P (i + 1) ρ2) :
    ∃ ρ', loopF g b ((rngP lo n).map D.int) ρ = .nx ρ' ∧ P n ρ' := by
  have := loop_ind (g := g) (b := b) P ((rngP lo n).map D.int) h0 fun i d ρ hd hp => by
    have hi : i < n := by
      have := (List.getElem?_eq_some_iff.mp hd).1
      simpa [rngP_length] using this
    rw [List.getElem?_map, rngP_get hi] at hd
    cases hd
    exact step i ρ hi hp
  simpa [rngP_length] using this
theorem comp_mapA {α : Type} {g : GEF} {e : EF} {ρ : DEnv} (mk : α → D) (f : α → D) (l : List α) (h : ∀ a ∈ l, (g (mk a) ρ).bind e = some (f a)) : compF g tTrue e ρ (l.map mk) = some (l.map f) := by
  induction l with
  | nil => rfl
  | cons a l ih =>
    have h1 := h a (by simp)
    have h2 := ih fun x hx => h x (by simp [hx])
    cases hg : g (mk a) ρ with
    | none => rw [hg] at h1; cases h1
    | some ρ1 =>
      rw [hg] at h1
      have h1' : e ρ1 = some (f a) := h1
      simp only [List.map_cons, compF, hg, Option.bind_some, tTrue, if_true, h1', h2, Option.map_some]
theorem comp_mapE {α : Type} {g : GEF} {e : EF} {ρ : DEnv} (mk : α → D) (f : α → D) (l : List α) (h : ∀ a ∈ l, ∃ ρ1, g (mk a) ρ = some ρ1 ∧ e ρ1 = some (f a)) : compF g tTrue e ρ (l.map mk) = some (l.map f) :=
  comp_mapA mk f l fun a ha => by
    obtain ⟨ρ1, h1, h2⟩ := h a ha
    rw [h1]; exact h2
theorem comp_filter {α : Type} {g : GEF} {t : TF} {e : EF} {ρ : DEnv} (mk : α → D) (p : α → Bool) (f : α → D) (l : List α) (h : ∀ a ∈ l, ∃ ρ1, g (mk a) ρ = some ρ1 ∧ t ρ1 = some (p a) ∧ (p a = true → e ρ1 = some (f a))) :
    compF g t e ρ (l.map mk) = some ((l.filter p).map f) := by
  induction l with
  | nil => rfl
  | cons a l ih =>
    obtain ⟨ρ1, h1, h2, h3⟩ := h a (by simp)
    have ih := ih fun x hx => h x (by simp [hx])
    cases hp : p a with
    | false => simp [compF, h1, h2, hp, ih]
    | true => simp [compF, h1, h2, hp, h3 hp, ih]
theorem comp_rel {α β : Type} {g : GEF} {e : EF} {ρ : DEnv} (mk : α → D) (out : β → D) (R : α → β → Prop) (l : List α) (h : ∀ a ∈ l, ∃ ρ1 b, g (mk a) ρ = some ρ1 ∧ e ρ1 = some (out b) ∧ R a b) :
    ∃ bs : List β, bs.length = l.length ∧ (∀ (i : Nat) (a : α) (b : β), l[i]? = some a → bs[i]? = some b → R a b) ∧ compF g tTrue e ρ (l.map mk) = some (bs.map out) := by
  induction l with
  | nil => exact ⟨[], rfl, fun i a b h => by simp at h, rfl⟩
  | cons a l ih =>
    obtain ⟨ρ1, b, h1, h2, h3⟩ := h a (by simp)
    obtain ⟨bs, hl, hr, hc⟩ := ih fun x hx => h x (by simp [hx])
    refine ⟨b :: bs, by simp [hl], fun i x y hx hy => ?_, by simp [compF, h1, h2, hc, tTrue]⟩
    cases i with
    | zero => simp at hx hy; subst hx hy; exact h3
    | succ i => exact hr i x y (by simpa using hx) (by simpa using hy)
noncomputable def Rt (o : Out) (Q : D → Prop) : Prop := ∃ d, o = .rt d ∧ Q d
noncomputable def Nx (o : Out) (Q : SEnv → Prop) : Prop := ∃ ρ, o = .nx ρ ∧ Q ρ
theorem rt_seq {f g : SF} {ρ : SEnv} {Q : D → Prop} (M : SEnv → Prop) (h1 : Nx (f ρ) M) (h2 : ∀ ρ', M ρ' → Rt (g ρ') Q) : Rt (sSeq f g ρ) Q := by
  obtain ⟨ρ', e, m⟩ := h1; unfold sSeq; rw [e]; exact h2 ρ' m
theorem nx_seq {f g : SF} {ρ : SEnv} {Q : SEnv → Prop} (M : SEnv → Prop) (h1 : Nx (f ρ) M) (h2 : ∀ ρ', M ρ' → Nx (g ρ') Q) : Nx (sSeq f g ρ) Q := by
  obtain ⟨ρ', e, m⟩ := h1; unfold sSeq; rw [e]; exact h2 ρ' m
theorem rt_seqE {f g : SF} {ρ : SEnv} {Q : D → Prop} (ρ' : SEnv) (h1 : f ρ = .nx ρ') (h2 : Rt (g ρ') Q) : Rt (sSeq f g ρ) Q := by
  unfold sSeq; rw [h1]; exact h2
theorem nx_seqE {f g : SF} {ρ : SEnv} {Q : SEnv → Prop} (ρ' : SEnv) (h1 : f ρ = .nx ρ') (h2 : Nx (g ρ') Q) : Nx (sSeq f g ρ) Q := by
  unfold sSeq; rw [h1]; exact h2
theorem rt_seqR {f g : SF} {ρ : SEnv} {Q : D → Prop} (h1 : Rt (f ρ) Q) : Rt (sSeq f g ρ) Q := by
  obtain ⟨d, e, m⟩ := h1; unfold sSeq; rw [e]; exact ⟨d, rfl, m⟩
theorem nx_if {t : TF} {a b : SF} {ρ : SEnv} {Q : SEnv → Prop} (c : Bool) (h : t (vAll ρ) = some c) (h1 : c = true → Nx (a ρ) Q) (h2 : c = false → Nx (b ρ) Q) : Nx (sIf t a b ρ) Q := by
  unfold sIf; rw [h]; cases c; exact h2 rfl; exact h1 rfl
theorem rt_ret {f : EF} {ρ : SEnv} {Q : D → Prop} (d : D) (h : f (vAll ρ) = some d) (q : Q d) : Rt (sRet f ρ) Q := ⟨d, retE h, q⟩
theorem nx_end {ρ : SEnv} {Q : SEnv → Prop} (q : Q ρ) : Nx (sEnd ρ) Q := ⟨ρ, rfl, q⟩
theorem nx_for {it : AF} {g : GSF} {b : SF} {ρ : SEnv} {Q : SEnv → Prop} (ds : List D) (P : Nat → SEnv → Prop) (h : it (vRd ρ) = some ds) (h0 : P 0 ρ) (step : ∀ (i : Nat) (d : D) (ρ : SEnv), ds[i]? = some d → P i ρ → ∃ ρ1, g d ρ = some ρ1 ∧ Nx (b ρ1) (P (i + 1)))
    (fin : ∀ ρ', P ds.length ρ' → Q ρ') : Nx (sFor it g b ρ) Q := by
  obtain ⟨ρ', e, p⟩ := loop_ind (g := g) (b := b) P ds h0 fun i d ρ hd hp => by
    obtain ⟨ρ1, e1, ρ2, e2, p2⟩ := step i d ρ hd hp
    exact ⟨ρ1, ρ2, e1, e2, p2⟩
  exact ⟨ρ', forE ds h e, fin ρ' p⟩
theorem nx_rng {t : AF} {g : GSF} {b : SF} {ρ : SEnv} {Q : SEnv → Prop} (n : Nat) (P : Nat → SEnv → Prop) (h : t (vRd ρ) = some [.int (n : Int)]) (hn : n < 4611686018427387904) (h0 : P 0 ρ) (step : ∀ (i : Nat) (ρ : SEnv), i < n → P i ρ → ∃ ρ1, g (.int (i : Int)) ρ = some ρ1 ∧ Nx (b ρ1) (P (i + 1)))
    (fin : ∀ ρ', P n ρ' → Q ρ') : Nx (sFor (iRange t) g b ρ) Q := by
  refine nx_for ((rngP 0 n).map D.int) P (by unfold iRange; rw [h, Option.bind_some, rangeM_n hn]) h0 (fun i d ρ hd hp => ?_) (fun ρ' p => fin ρ' (by simpa [rngP_length] using p))
  have hi : i < n := by
    have := (List.getElem?_eq_some_iff.mp hd).1
    simpa [rngP_length] using this
  rw [List.getElem?_map, rngP_get hi] at hd
  have hd : D.int (0 + (i : Int)) = d := by simpa using hd
  subst hd
  obtain ⟨ρ1, e, q⟩ := step i ρ hi hp
  exact ⟨ρ1, by rw [Int.zero_add]; exact e, q⟩
theorem run_ok {n np : Nat} {b : SF} {ds : List D} {Q : D → Prop} (hl : ds.length = np) (h : Rt (b (startS n ds)) Q) : ∃ d, runF n np b ds = .ok d ∧ Q d := by
  obtain ⟨d, e, q⟩ := h; exact ⟨d, runE hl e, q⟩
theorem erase_map : ∀ (l : List Int) (j : Nat), (l.map D.int).eraseIdx j = (l.eraseIdx j).map D.int
  | [], j => by simp
  | a :: l, 0 => by simp
  | a :: l, j + 1 => by simp [erase_map l j]
theorem binE {g : D → D → Option D} {a b : EF} {ρ : DEnv} {z : Option D} {x y : D} (ha : a ρ = some x) (hb : b ρ = some y) (h : g x y = z) : eBin g a b ρ = z := by
  unfold eBin; rw [ha, hb]; exact h
theorem cb1E {g : List D → Option D} {a : EF} {ρ : DEnv} {z : Option D} {x : D} (ha : a ρ = some x) (h : g [x] = z) : eCB g (aCons a aNil) ρ = z := by
  unfold eCB aCons aNil; rw [ha]; exact h
theorem call1E {f : FnF} {a : EF} {ρ : DEnv} {d x : D} (ha : a ρ = some x) (h : f [x] = .ok d) : eCall f (aCons a aNil) ρ = some d := by
  unfold eCall aCons aNil; rw [ha]; show mOpt (f [x]) = _; rw [h]; rfl
theorem call2E {f : FnF} {a b : EF} {ρ : DEnv} {d x y : D} (ha : a ρ = some x) (hb : b ρ = some y) (h : f [x, y] = .ok d) : eCall f (aCons a (aCons b aNil)) ρ = some d := by
  unfold eCall aCons aNil; rw [ha, hb]; show mOpt (f [x, y]) = _; rw [h]; rfl
theorem call3E {f : FnF} {a b c : EF} {ρ : DEnv} {d x y z : D} (ha : a ρ = some x) (hb : b ρ = some y) (hc : c ρ = some z) (h : f [x, y, z] = .ok d) : eCall f (aCons a (aCons b (aCons c aNil))) ρ = some d := by
  unfold eCall aCons aNil; rw [ha, hb, hc]; show mOpt (f [x, y, z]) = _; rw [h]; rfl
theorem call4E {f : FnF} {a b c e : EF} {ρ : DEnv} {d x y z w : D} (ha : a ρ = some x) (hb : b ρ = some y) (hc : c ρ = some z) (he : e ρ = some w) (h : f [x, y, z, w] = .ok d) : eCall f (aCons a (aCons b (aCons c (aCons e aNil)))) ρ = some d := by
  unfold eCall aCons aNil; rw [ha, hb, hc, he]; show mOpt (f [x, y, z, w]) = _; rw [h]; rfl
theorem args1 {a : EF} {ρ : DEnv} {x : D} (ha : a ρ = some x) : aCons a aNil ρ = some [x] := by unfold aCons aNil; rw [ha]; rfl
theorem rng1E {a : EF} {ρ : DEnv} {n : Nat} (ha : a ρ = some (.int (n : Int))) (hn : n < 4611686018427387904) : iRange (aCons a aNil) ρ = some ((rngP 0 n).map D.int) := by
  unfold iRange; rw [args1 ha, Option.bind_some, rangeM_n hn]
theorem tvE {f : EF} {ρ : DEnv} {d : D} {b : Bool} (h : f ρ = some d) (ht : truthM d = some b) : tV f ρ = some b := by unfold tV; rw [h]; exact ht
theorem tnE {t : TF} {ρ : DEnv} {b c : Bool} (h : t ρ = some b) (hc : (!b) = c) : tNot t ρ = some c := by unfold tNot; rw [h, ← hc]; rfl
theorem tandE {t u : TF} {ρ : DEnv} {b c : Bool} (h : t ρ = some b) (h2 : b = true → u ρ = some c) (h3 : b = false → c = false) : tAnd t u ρ = some c := by
  unfold tAnd; rw [h]; cases b
  · rw [h3 rfl]; rfl
  · exact h2 rfl
theorem torE {t u : TF} {ρ : DEnv} {b c : Bool} (h : t ρ = some b) (h2 : b = false → u ρ = some c) (h3 : b = true → c = true) : tOr t u ρ = some c := by
  unfold tOr; rw [h]; cases b
  · exact h2 rfl
  · rw [h3 rfl]; rfl
theorem popM_ok {l : List Int} {i : Int} {y : Int} (h0 : 0 ≤ i) (h1 : i < l.length) (h2 : l.length ≤ 16777216) (hy : l[i.toNat]? = some y) : popM (l.map D.int) (.int i) = some ((l.eraseIdx i.toNat).map D.int, .int y) := by
  show (if i.natAbs < 9223372036854775808 then _ else _) = _
  rw [if_pos (by omega), List.length_map, ixP_ok h0 h1, Option.bind_some, List.getElem?_map, hy, erase_map]
  rfl
theorem ints_at {ws : List Int} {j : Nat} {x : Int} (h : ws[j]? = some x) : atP (ws.map D.int) (j : Int) = some (.int x) := by
  rw [atP_map, atP_get h]; rfl
theorem take_get {α : Type} {l : List α} {i j : Nat} {x : α} (h : l[i]? = some x) (hij : i < j) : (l.take j)[i]? = some x := by rw [List.getElem?_take_of_lt hij]; exact h
theorem imms_ints : ∀ ns : List Int, imms (ns.map D.int) = true
  | [] => rfl
  | n :: ns => by rw [List.map_cons, imms, imms_ints ns]; rfl
theorem lookM_cons {k q : Sum Int Str} {ks : List (Sum Int Str)} {d : D} {ds : List D} : lookM (q :: ks) (d :: ds) k = if q = k then some d else lookM ks ds k := by
  by_cases e : q = k
  · simp [lookM, e]
  · simp [lookM, e]
theorem look_word : ∀ {word : List Int} {us : List (List Int)} {i : Nat} {x : Int} {v : List Int}, word.Nodup → word[i]? = some x → us[i]? = some v → lookM (word.map Sum.inl) (us.map lstI) (Sum.inl x) = some (lstI v)
  | [], us, i, x, v, _, h, _ => by simp at h
  | w :: ws, [], i, x, v, _, _, h => by simp at h
  | w :: ws, u :: us, 0, x, v, _, h1, h2 => by
    simp at h1 h2
    subst h1 h2
    rw [List.map_cons, List.map_cons, lookM_cons, if_pos rfl]
  | w :: ws, u :: us, i + 1, x, v, hn, h1, h2 => by
    obtain ⟨n1, n2⟩ := List.nodup_cons.mp hn
    have h1' : ws[i]? = some x := by simpa using h1
    have ne : (Sum.inl w : Sum Int Str) ≠ Sum.inl x := fun e => n1 (by cases e; exact List.mem_of_getElem? h1')
    rw [List.map_cons, List.map_cons, lookM_cons, if_neg ne]
    exact look_word n2 h1' (by simpa using h2)
theorem look_none : ∀ {word : List Int} {us : List (List Int)} {x : Int}, x ∉ word → lookM (word.map Sum.inl) (us.map lstI) (Sum.inl x) = none
  | [], us, x, _ => by simp [lookM]
  | w :: ws, [], x, _ => by simp [lookM]
  | w :: ws, u :: us, x, h => by
    have ne : (Sum.inl w : Sum Int Str) ≠ Sum.inl x := fun e => h (by cases e; exact List.mem_cons_self)
    rw [List.map_cons, List.map_cons, lookM_cons, if_neg ne]
    exact look_none fun z => h (List.mem_cons_of_mem _ z)
theorem insI_perm (a : Int) : ∀ l : List Int, (insI a l).Perm (a :: l)
  | [] => .refl _
  | b :: l => by
    unfold insI
    split
    · exact .refl _
    · exact ((insI_perm a l).cons b).trans (.swap a b l)
theorem sortI_perm : ∀ l : List Int, (sortI l).Perm l
  | [] => .refl _
  | a :: l => (insI_perm a (sortI l)).trans ((sortI_perm l).cons a)
theorem insI_sorted (a : Int) : ∀ l : List Int, l.Pairwise (· ≤ ·) → (insI a l).Pairwise (· ≤ ·)
  | [], _ => by simp [insI]
  | b :: l, h => by
    unfold insI
    split
    · rename_i hab
      refine List.pairwise_cons.mpr ⟨fun c hc => ?_, h⟩
      rcases List.mem_cons.mp hc with e | e
      · subst e; exact hab
      · exact Int.le_trans hab ((List.pairwise_cons.mp h).1 c e)
    · rename_i hab
      refine List.pairwise_cons.mpr ⟨fun c hc => ?_, insI_sorted a l (List.pairwise_cons.mp h).2⟩
      rcases List.mem_cons.mp ((insI_perm a l).mem_iff.mp hc) with e | e
      · subst e; omega
      · exact (List.pairwise_cons.mp h).1 c e
theorem sortI_sorted : ∀ l : List Int, (sortI l).Pairwise (· ≤ ·)
  | [] => List.Pairwise.nil
  | a :: l => insI_sorted a _ (sortI_sorted l)
theorem sorted_eq : ∀ {l m : List Int}, l.Perm m → l.Pairwise (· ≤ ·) → m.Pairwise (· ≤ ·) → l = m
  | [], m, p, _, _ => by rw [p.nil_eq]
  | a :: l, [], p, _, _ => by have := p.length_eq; simp at this
  | a :: l, b :: m, p, h1, h2 => by
    have e : a = b := by
      have m1 := p.mem_iff.mp (List.mem_cons_self (a := a) (l := l))
      have m2 := p.mem_iff.mpr (List.mem_cons_self (a := b) (l := m))
      rcases List.mem_cons.mp m1 with e | e
      · exact e
      · rcases List.mem_cons.mp m2 with e2 | e2
        · exact e2.symm
        · have := (List.pairwise_cons.mp h2).1 a e
          have := (List.pairwise_cons.mp h1).1 b e2
          omega
    subst e
    rw [sorted_eq p.cons_inv (List.pairwise_cons.mp h1).2 (List.pairwise_cons.mp h2).2]
end LL
end
section
set_option Elab.async false
set_option linter.all false
set_option maxRecDepth 100000
set_option maxHeartbeats 999999
namespace LL
open PySem L3 L4
local macro_rules | `(tactic| walk_at "ev") => `(tactic| simp only [startS, sSeq, sIf, sRet, sSet, sSetX, sOwn, sOwnI, sSetF, sOwnD, sX, sFor, sEnd, eVar, eC, eBin, tV, tNot, tAnd, tOr, eAnd, eOr, eNot, eIf, eNeg, eChain, aNil, aCons, eCB, eCall, mOpt, eIsi, iWalk, iRange, iEnum, iZip, iRev, g1, g2, gN1, gN2, pairM, tTrue, benv, eSl, oNo, oE, asInt, xPureR, xM1, ownL, vAll, vRd, Sv.all, Sv.rd, List.map_cons, List.map_nil, List.getElem?_cons_zero, List.getElem?_cons_succ, List.getElem?_nil, Option.join_some, Option.join_none, Option.bind_some, Option.bind_none, Option.map_some, Option.map_none, List.set_cons_zero, List.set_cons_succ, List.set_nil, List.length_cons, List.length_nil, List.length_map, List.cons_append, List.nil_append, List.replicate_succ, List.replicate_zero, Nat.reduceSub, Nat.reduceAdd, Nat.reduceEqDiff, truthM_bl, truthM_lst, truthM_tup, boolM_bl, negM, addM_int, subM_int, ltM_int, leM_int, gtM_int, geM_int, eqM_int, neM_int, eqM_bl, eqM_str, isM_non, isNon, ixM_lst, ixM_tup, ixM_scr, lenM_lst, lenM_tup, lenM_scr, tupleM_lst, tupleM_tup, listM_lst, listM_tup, walkM_lst, walkM_tup, enumM_tup, enumM_lst, revM_tup, revM_lst, if_true, if_false, ite_true, ite_false, reduceIte, decide_true, decide_false, decide_eq_true_eq, Bool.false_eq_true, Bool.not_true, Bool.not_false, inM_tup, inM_lst])
theorem cell_ok (ns : List Int) (k : Int) : ∃ c, f_l_cell [.scr ns, .int k] = .ok (.int c) := by
  unfold f_l_cell
  by_cases h : (ns.length : Int) = 0
  · exact ⟨0, runE rfl (seqR (ifT (by walk_at "ev"; rw [decide_eq_true h]) rfl))⟩
  · obtain ⟨x, _, e, _⟩ := atP_ok (xs := ns) (i := k % (ns.length : Int)) (Int.emod_nonneg _ (by omega)) (Int.emod_lt_of_pos _ (by omega))
    refine ⟨x, runE rfl (seqE _ (ifF (by walk_at "ev"; rw [decide_eq_false h]) rfl) (retE ?_))⟩
    walk_at "ev"
    rw [modM_int (by omega)]
    walk_at "ev"
    rw [e]; rfl
noncomputable def mix1 (c k s : Int) : Int := (c + 11 * k * k + 17 * k + s) * 48271 % 2147483647
noncomputable def mix2 (c k s : Int) : Int := (mix1 c k s * (mix1 c k s / 4096 + 5) + 29 * k + s) % 2147483629
theorem mixed_ok (c k s : Int) (h0 : 0 ≤ k) (h1 : k < 1000000) : ∃ r, 0 ≤ r ∧ f_l_mixed [.int c, .int k, .int s] = .ok (.int r) := by
  unfold f_l_mixed
  have ha : 0 ≤ mix1 c k s := Int.emod_nonneg ((c + 11 * k * k + 17 * k + s) * 48271) (b := 2147483647) (by decide)
  have hb : mix1 c k s < 2147483647 := Int.emod_lt_of_pos ((c + 11 * k * k + 17 * k + s) * 48271) (b := 2147483647) (by decide)
  refine ⟨mix2 c k s * 39373 % 1000000007, Int.emod_nonneg _ (b := 1000000007) (by decide), runE rfl (seqE _ (setE (.int (mix1 c k s)) ?_ rfl) (seqE _ (setE (.int (mix2 c k s)) ?_ rfl) (retE ?_)))⟩
  · walk_at "ev"
    rw [mulM_l (by decide)]
    walk_at "ev"
    rw [mulM_r (by omega), mulM_l (i := 17) (by decide)]
    walk_at "ev"
    rw [mulM_r (j := 48271) (by decide)]
    walk_at "ev"
    rw [modM_int (by decide)]
    rfl
  · walk_at "ev"
    rw [divM_int (by decide) (by decide)]
    walk_at "ev"
    rw [mulM_l (by omega), mulM_l (i := 29) (by decide)]
    walk_at "ev"
    rw [modM_int (by decide)]
    rfl
  · walk_at "ev"
    rw [mulM_r (j := 39373) (by decide)]
    walk_at "ev"
    rw [modM_int (by decide)]
theorem lstI_snoc (xs : List Int) (x : Int) : D.lst (xs.map D.int ++ [.int x]) = lstI (xs ++ [x]) := by simp [lstI]
theorem draws_ok (c many s : Int) (h0 : 0 ≤ many) (h1 : many < 1000000) : ∃ xs : List Int, xs.length = many.toNat ∧ (∀ x ∈ xs, 0 ≤ x) ∧ f_l_draws [.int c, .int many, .int s] = .ok (lstI xs) := by
  unfold f_l_draws
  have key : ∀ left : Int, ∃ ρ', loopF (gN1 5) (sIf (tV (eBin gtM (eVar 4) (eC (.int 0))))
        (sSeq (sX (xM1 3 appM (xPureR (eBin modM (eVar 4) (eC (.int 64))))))
        (sSet 4 (eBin divM (eVar 4) (eC (.int 64)))))
        (sX (xM1 3 appM (xPureR (eCall LL.f_l_mixed (aCons (eVar 0) (aCons (eVar 5) (aCons (eVar 2) aNil))))))))
        ((rngP 0 many.toNat).map D.int) [Sv.ro (.int c), Sv.ro (.int many), Sv.ro (.int s), Sv.ow (.lst []), Sv.ro (.int left), Sv.no] = .nx ρ' ∧
        ∃ (xs : List Int) (l : Int) (v : Sv), xs.length = many.toNat ∧ (∀ x ∈ xs, 0 ≤ x) ∧ ρ' = [Sv.ro (.int c), Sv.ro (.int many), Sv.ro (.int s), Sv.ow (lstI xs), Sv.ro (.int l), v] := by
    intro left
    refine loop_rng (fun i ρ' => ∃ (xs : List Int) (l : Int) (v : Sv), xs.length = i ∧ (∀ x ∈ xs, 0 ≤ x) ∧ ρ' = [Sv.ro (.int c), Sv.ro (.int many), Sv.ro (.int s), Sv.ow (lstI xs), Sv.ro (.int l), v]) 0 _ ⟨[], left, _, rfl, by simp, rfl⟩ ?_
    rintro i _ hi ⟨xs, l, v, hx, hn, rfl⟩
    have hlen : (xs.map D.int).length < 16777216 := by rw [List.length_map]; omega
    by_cases hl : 0 < l
    · refine ⟨_, _, rfl, ifT (by walk_at "ev"; rw [decide_eq_true hl]) (seqE [Sv.ro (.int c), Sv.ro (.int many), Sv.ro (.int s), Sv.ow (lstI (xs ++ [l % 64])), Sv.ro (.int l), Sv.ro (.int (0 + (i : Int)))] ?_ (setE (.int (l / 64)) ?_ rfl)), xs ++ [l % 64], l / 64, _, by simp [hx], ?_, rfl⟩
      · walk_at "ev"
        rw [modM_int (by decide)]
        walk_at "ev"
        simp only [lstI, ownL]
        walk_at "ev"
        rw [appM_ok hlen]
        walk_at "ev"
        rw [lstI_snoc]
        rfl
      · walk_at "ev"
        rw [divM_int (by decide) (by decide)]
      · intro x hx
        rcases List.mem_append.mp hx with h | h
        · exact hn x h
        · rw [List.mem_singleton.mp h]; exact Int.emod_nonneg _ (by decide)
    · obtain ⟨r, hr, e⟩ := mixed_ok c (0 + (i : Int)) s (by omega) (by omega)
      refine ⟨_, [Sv.ro (.int c), Sv.ro (.int many), Sv.ro (.int s), Sv.ow (lstI (xs ++ [r])), Sv.ro (.int l), Sv.ro (.int (0 + (i : Int)))], rfl, ifF (by walk_at "ev"; rw [decide_eq_false hl]) ?_, xs ++ [r], l, _, by simp [hx], ?_, rfl⟩
      · walk_at "ev"
        rw [e]
        simp only [lstI, ownL]
        walk_at "ev"
        rw [appM_ok hlen]
        walk_at "ev"
        rw [lstI_snoc]
        rfl
      · intro x hx
        rcases List.mem_append.mp hx with h | h
        · exact hn x h
        · rw [List.mem_singleton.mp h]; exact hr
  have hp : powM (.int 10) (.int 18) = some (.int 1000000000000000000) := rfl
  have fin : ∀ left : Int, (0 = 0) → ∃ xs : List Int, xs.length = many.toNat ∧ (∀ x ∈ xs, 0 ≤ x) ∧ sSeq (sFor (iRange (aCons (eVar 1) aNil)) (gN1 5) (sIf (tV (eBin gtM (eVar 4) (eC (.int 0))))
        (sSeq (sX (xM1 3 appM (xPureR (eBin modM (eVar 4) (eC (.int 64))))))
        (sSet 4 (eBin divM (eVar 4) (eC (.int 64)))))
        (sX (xM1 3 appM (xPureR (eCall LL.f_l_mixed (aCons (eVar 0) (aCons (eVar 5) (aCons (eVar 2) aNil))))))))) (sRet (eVar 3)) [Sv.ro (.int c), Sv.ro (.int many), Sv.ro (.int s), Sv.ow (.lst []), Sv.ro (.int left), Sv.no] = .rt (lstI xs) := by
    intro left _
    obtain ⟨ρ', e, xs, l, v, h1', h2', rfl⟩ := key left
    refine ⟨xs, h1', h2', seqE _ (forE _ ?_ e) (retE rfl)⟩
    walk_at "ev"
    exact rangeM_1 (by omega)
  by_cases hc : 1000000000000000000 ≤ c
  · obtain ⟨xs, a, b, e⟩ := fin c rfl
    refine ⟨xs, a, b, runE rfl (seqE _ rfl (seqE _ rfl (seqE _ (ifT ?_ rfl) e)))⟩
    walk_at "ev"
    rw [hp]
    walk_at "ev"
    rw [decide_eq_true hc]
  · obtain ⟨xs, a, b, e⟩ := fin 0 rfl
    refine ⟨xs, a, b, runE rfl (seqE _ rfl (seqE _ rfl (seqE _ (ifF ?_ rfl) e)))⟩
    walk_at "ev"
    rw [hp]
    walk_at "ev"
    rw [decide_eq_false hc]
theorem order_ok (dr : List Int) (n : Nat) (th : Int) (hn : n ≤ 9) (hl : n + Ord.tri n ≤ dr.length) :
    ∃ d, f_l_order [lstI dr, .int n, .int th] = .ok d ∧ ∃ rows : List (List Int), rows.length = n ∧ Ord.Rows rows ∧ d = ordD rows := by
  unfold f_l_order
  refine run_ok rfl ?_
  rw [show startS 11 [lstI dr, .int n, .int th] = [Sv.ro (lstI dr), Sv.ro (.int n), Sv.ro (.int th), Sv.no, Sv.no, Sv.no, Sv.no, Sv.no, Sv.no, Sv.no, Sv.no] from rfl]
  refine rt_seqE [Sv.ro (lstI dr), Sv.ro (.int n), Sv.ro (.int th), Sv.ow (.lst ((rngP 0 n).map D.int)), Sv.no, Sv.no, Sv.no, Sv.no, Sv.no, Sv.no, Sv.no] ?_ ?_
  · walk_at "ev"
    simp only [eListR]
    walk_at "ev"
    rw [if_pos (by omega)]
    rfl
  refine rt_seqE [Sv.ro (lstI dr), Sv.ro (.int n), Sv.ro (.int th), Sv.ow (.lst ((rngP 0 n).map D.int)), Sv.ow (.lst []), Sv.no, Sv.no, Sv.no, Sv.no, Sv.no, Sv.no] rfl ?_
  refine rt_seq (fun ρ => ∃ (word : List Int) (kv v3 : Sv), word.Perm (rngP 0 n) ∧ ρ = [Sv.ro (lstI dr), Sv.ro (.int n), Sv.ro (.int th), v3, Sv.ow (lstI word), kv, Sv.no, Sv.no, Sv.no, Sv.no, Sv.no]) ?_ ?_
  · refine nx_rng n (fun i ρ => ∃ (rest word : List Int) (kv : Sv), word.length = i ∧ (word ++ rest).Perm (rngP 0 n) ∧ ρ = [Sv.ro (lstI dr), Sv.ro (.int n), Sv.ro (.int th), Sv.ow (lstI rest), Sv.ow (lstI word), kv, Sv.no, Sv.no, Sv.no, Sv.no, Sv.no])
      rfl (by omega) ⟨rngP 0 n, [], Sv.no, rfl, .refl _, rfl⟩ ?_ ?_
    · rintro i _ hi ⟨rest, word, kv, hw, hp, rfl⟩
      have hlr : word.length + rest.length = n := by
        have := hp.length_eq
        rw [List.length_append, rngP_length] at this
        exact this
      obtain ⟨x, hx⟩ : ∃ x, dr[i]? = some x := ⟨_, List.getElem?_eq_getElem (by omega)⟩
      have hr0 : (0 : Int) < rest.length := by omega
      have h0 := Int.emod_nonneg x (show (rest.length : Int) ≠ 0 by omega)
      have h1 := Int.emod_lt_of_pos x hr0
      obtain ⟨y, hy⟩ : ∃ y, rest[(x % (rest.length : Int)).toNat]? = some y := ⟨_, List.getElem?_eq_getElem (by omega)⟩
      refine ⟨_, rfl, [Sv.ro (lstI dr), Sv.ro (.int n), Sv.ro (.int th), Sv.ow (lstI (rest.eraseIdx (x % (rest.length : Int)).toNat)), Sv.ow (lstI (word ++ [y])), Sv.ro (.int i), Sv.no, Sv.no, Sv.no, Sv.no, Sv.no], ?_, rest.eraseIdx (x % (rest.length : Int)).toNat, word ++ [y], Sv.ro (.int i), by simp [hw], ?_, rfl⟩
      · have e1 := popM_ok h0 h1 (by omega) hy
        simp only [lstI]
        walk_at "ev"
        simp only [xPure]
        walk_at "ev"
        rw [ints_at hx]
        walk_at "ev"
        rw [modM_int hr0]
        walk_at "ev"
        simp only [D.imm, ite_true, Option.bind_some]
        walk_at "ev"
        rw [e1]
        walk_at "ev"
        rw [appM_ok (by rw [List.length_map]; omega)]
        walk_at "ev"
        rw [List.map_append]
        rfl
      · rw [List.append_assoc]
        exact ((Ord.cons_erase rest _ y hy).append_left word).trans hp
    · rintro _ ⟨rest, word, kv, hw, hp, rfl⟩
      have hlr : word.length + rest.length = n := by
        have := hp.length_eq
        rw [List.length_append, rngP_length] at this
        exact this
      have e : rest = [] := List.length_eq_zero_iff.mp (by omega)
      subst e
      rw [List.append_nil] at hp
      exact ⟨word, kv, _, hp, rfl⟩
  rintro _ ⟨word, kv, v3, hp, rfl⟩
  have hpw : word.Perm ((List.range n).map fun k : Nat => (k : Int)) := by
    have e : rngP 0 n = (List.range n).map fun k : Nat => (k : Int) := List.map_congr_left fun k _ => by show 0 + (k : Int) = k; omega
    rw [← e]
    exact hp
  have hlw : word.length = n := by rw [hpw.length_eq, List.length_map, List.length_range]
  have ndw : word.Nodup := hpw.nodup_iff.mpr (List.Pairwise.map _ (fun a b hab e => hab (by omega)) List.nodup_range)
  have lenU : ∀ {us : List (List Int)} (t : Nat) (u : List Int), Ord.Under word us t u → u.length ≤ n := fun {us} t u h => by
    rw [← hlw]
    exact Ord.length_sub u word h.1 fun a ha => by obtain ⟨s, _, _, h2, _⟩ := h.2 a ha; exact List.mem_of_getElem? h2
  refine rt_seqE [Sv.ro (lstI dr), Sv.ro (.int n), Sv.ro (.int th), v3, Sv.ow (lstI word), kv, Sv.ow (.dic [] []), Sv.no, Sv.no, Sv.no, Sv.no] rfl ?_
  refine rt_seqE [Sv.ro (lstI dr), Sv.ro (.int n), Sv.ro (.int th), v3, Sv.ow (lstI word), kv, Sv.ow (.dic [] []), Sv.ro (.int n), Sv.no, Sv.no, Sv.no] rfl ?_
  refine rt_seq (fun ρ => ∃ (us : List (List Int)) (v7 v8 v9 v10 : Sv), us.length = n ∧ Ord.Good word us ∧ ρ = [Sv.ro (lstI dr), Sv.ro (.int n), Sv.ro (.int th), v3, Sv.ow (lstI word), kv, Sv.ow (.dic (word.map Sum.inl) (us.map lstI)), v7, v8, v9, v10]) ?_ ?_
  · refine nx_rng n (fun j ρ => ∃ (us : List (List Int)) (v8 v9 v10 : Sv), us.length = j ∧ Ord.Good word us ∧ ρ = [Sv.ro (lstI dr), Sv.ro (.int n), Sv.ro (.int th), v3, Sv.ow (lstI word), kv, Sv.ow (.dic ((word.take j).map Sum.inl) (us.map lstI)), Sv.ro (.int ((n + Ord.tri j : Nat) : Int)), v8, v9, v10])
      rfl (by omega) ⟨[], Sv.no, Sv.no, Sv.no, rfl, (fun t u e => by simp at e), rfl⟩ ?_ ?_
    · rintro j _ hj ⟨us, v8, v9, v10, hul, hg, rfl⟩
      refine ⟨_, rfl, ?_⟩
      refine nx_seqE [Sv.ro (lstI dr), Sv.ro (.int n), Sv.ro (.int th), v3, Sv.ow (lstI word), kv, Sv.ow (.dic ((word.take j).map Sum.inl) (us.map lstI)), Sv.ro (.int ((n + Ord.tri j : Nat) : Int)), Sv.ro (.int j), Sv.ro (.lst []), v10] rfl ?_
      refine nx_seq (fun ρ => ∃ (u : List Int) (v10 : Sv), Ord.Under word us j u ∧ ρ = [Sv.ro (lstI dr), Sv.ro (.int n), Sv.ro (.int th), v3, Sv.ow (lstI word), kv, Sv.ow (.dic ((word.take j).map Sum.inl) (us.map lstI)), Sv.ro (.int ((n + Ord.tri (j + 1) : Nat) : Int)), Sv.ro (.int j), Sv.ro (lstI u), v10]) ?_ ?_
      · refine nx_rng j (fun i ρ => ∃ (u : List Int) (v10 : Sv), Ord.Under word us i u ∧ ρ = [Sv.ro (lstI dr), Sv.ro (.int n), Sv.ro (.int th), v3, Sv.ow (lstI word), kv, Sv.ow (.dic ((word.take j).map Sum.inl) (us.map lstI)), Sv.ro (.int ((n + Ord.tri j + i : Nat) : Int)), Sv.ro (.int j), Sv.ro (lstI u), v10])
          rfl (by omega) ⟨[], _, ⟨List.nodup_nil, fun a ha => (nomatch ha)⟩, rfl⟩ ?_ ?_
        · rintro i _ hi ⟨u, v10, hU, rfl⟩
          have tl := Ord.tri_lt hj hi
          obtain ⟨y, hy⟩ : ∃ y, dr[n + Ord.tri j + i]? = some y := ⟨_, List.getElem?_eq_getElem (by omega)⟩
          obtain ⟨x, hx⟩ : ∃ x, word[i]? = some x := ⟨_, List.getElem?_eq_getElem (by omega)⟩
          obtain ⟨v, hv⟩ : ∃ v, us[i]? = some v := ⟨_, List.getElem?_eq_getElem (by omega)⟩
          have lv := lenU _ _ (hg i v hv)
          have lu := lenU _ _ hU
          refine ⟨_, rfl, ?_⟩
          refine nx_seq (fun ρ => ∃ u' : List Int, Ord.Under word us (i + 1) u' ∧ ρ = [Sv.ro (lstI dr), Sv.ro (.int n), Sv.ro (.int th), v3, Sv.ow (lstI word), kv, Sv.ow (.dic ((word.take j).map Sum.inl) (us.map lstI)), Sv.ro (.int ((n + Ord.tri j + i : Nat) : Int)), Sv.ro (.int j), Sv.ro (lstI u'), Sv.ro (.int i)]) ?_ ?_
          · refine nx_if (decide (y % 4 < th)) ?_ (fun _ => ?_) (fun _ => nx_end ⟨u, hU.mono (by omega), rfl⟩)
            · simp only [lstI]
              walk_at "ev"
              rw [ints_at hy]
              walk_at "ev"
              rw [modM_int (by decide)]
              walk_at "ev"
            · refine ⟨_, ?_, _, hU.step ndw hg hx hv, rfl⟩
              have hf := List.length_filter_le (fun a => !u.contains a) (v ++ [x])
              have e1 : compF (g1 0) (tV (eBin (inM true) (eVar 0) (eVar 1))) (eVar 0) [none, some (.lst (u.map D.int))] ((v ++ [x]).map D.int) = some (((v ++ [x]).filter fun a => !u.contains a).map D.int) :=
                comp_filter D.int _ D.int (v ++ [x]) fun a _ => ⟨_, rfl, by walk_at "ev", fun _ => rfl⟩
              have e2 : eBin addM (eBin ixDM (eVar 6) (eBin ixM (eVar 4) (eVar 10))) (eLst (aCons (eBin ixM (eVar 4) (eVar 10)) aNil)) [some (lstI dr), some (.int n), some (.int th), v3.all, some (lstI word), kv.all, some (.dic ((word.take j).map Sum.inl) (us.map lstI)), some (.int ((n + Ord.tri j + i : Nat) : Int)), some (.int j), some (lstI u), some (.int i)] = some (.lst ((v ++ [x]).map D.int)) := by
                simp only [lstI]
                walk_at "ev"
                rw [ints_at hx]
                walk_at "ev"
                simp only [ixDM, keyM, Option.bind_some]
                have := look_word (List.Nodup.sublist (List.take_sublist j word) ndw) (take_get hx hi) hv
                simp only [lstI] at this
                rw [this]
                simp only [eLst]
                walk_at "ev"
                rw [ints_at hx]
                walk_at "ev"
                rw [if_pos (by decide), Option.bind_some, addM_lst (by simp; omega)]
                simp
              have e3 : eComp 1 [9] (iWalk (eBin addM (eBin ixDM (eVar 6) (eBin ixM (eVar 4) (eVar 10))) (eLst (aCons (eBin ixM (eVar 4) (eVar 10)) aNil)))) (g1 0) (tV (eBin (inM true) (eVar 0) (eVar 1))) (eVar 0) [some (lstI dr), some (.int n), some (.int th), v3.all, some (lstI word), kv.all, some (.dic ((word.take j).map Sum.inl) (us.map lstI)), some (.int ((n + Ord.tri j + i : Nat) : Int)), some (.int j), some (lstI u), some (.int i)] = some (.lst (((v ++ [x]).filter fun a => !u.contains a).map D.int)) :=
                compE ((v ++ [x]).map D.int) (by unfold iWalk; rw [e2]; rfl) (by simp; omega) e1
              unfold sSetF
              have e4 : eBin catM (eVar 9) (eComp 1 [9] (iWalk (eBin addM (eBin ixDM (eVar 6) (eBin ixM (eVar 4) (eVar 10))) (eLst (aCons (eBin ixM (eVar 4) (eVar 10)) aNil)))) (g1 0) (tV (eBin (inM true) (eVar 0) (eVar 1))) (eVar 0)) [some (lstI dr), some (.int n), some (.int th), v3.all, some (lstI word), kv.all, some (.dic ((word.take j).map Sum.inl) (us.map lstI)), some (.int ((n + Ord.tri j + i : Nat) : Int)), some (.int j), some (lstI u), some (.int i)] = some (lstI (u ++ (v ++ [x]).filter fun a => !u.contains a)) := by
                refine binE (x := lstI u) rfl e3 ?_
                show catM (.lst (u.map D.int)) _ = _
                rw [catM_lst (by simp only [List.length_map, List.length_append, List.length_cons, List.length_nil] at hf ⊢; omega), ← List.map_append]
                rfl
              rw [show vAll _ = [some (lstI dr), some (.int n), some (.int th), v3.all, some (lstI word), kv.all, some (.dic ((word.take j).map Sum.inl) (us.map lstI)), some (.int ((n + Ord.tri j + i : Nat) : Int)), some (.int j), some (lstI u), some (.int i)] from rfl, e4]
              show (if lstImm (lstI _) = true then _ else _) = _
              rw [if_pos (show lstImm (lstI _) = true from imms_ints _)]
              rfl
          rintro _ ⟨u', hU', rfl⟩
          exact ⟨_, rfl, u', _, hU', rfl⟩
        · rintro _ ⟨u, v10, hU, rfl⟩
          exact ⟨u, v10, hU, by rw [Nat.add_assoc]; rfl⟩
      rintro _ ⟨u, v10, hU, rfl⟩
      obtain ⟨x, hx⟩ : ∃ x, word[j]? = some x := ⟨_, List.getElem?_eq_getElem (by omega)⟩
      refine ⟨[Sv.ro (lstI dr), Sv.ro (.int n), Sv.ro (.int th), v3, Sv.ow (lstI word), kv, Sv.ow (.dic ((word.take (j + 1)).map Sum.inl) ((us ++ [u]).map lstI)), Sv.ro (.int ((n + Ord.tri (j + 1) : Nat) : Int)), Sv.ro (.int j), Sv.ro (lstI u), v10], ?_, us ++ [u], Sv.ro (.int j), Sv.ro (lstI u), v10, by simp [hul], hg.snoc (by rw [hul]; exact hU), rfl⟩
      have hno : lookM ((word.take j).map Sum.inl) (us.map lstI) (Sum.inl x) = none := look_none fun hm => by
        obtain ⟨t, ht⟩ := List.mem_iff_getElem?.mp hm
        have htl : t < j := by
          have := (List.getElem?_eq_some_iff.mp ht).1
          rw [List.length_take] at this
          omega
        rw [List.getElem?_take_of_lt htl] at ht
        have := Ord.ix_inj ndw ht hx
        omega
      unfold sPutN
      walk_at "ev"
      simp only [ownDic, Option.bind_some]
      have e5 : ixM (lstI word) (.int (j : Int)) = some (.int x) := ints_at hx
      rw [e5]
      simp only [Option.bind_some, keyM, hno, Option.isNone_none, true_and]
      rw [if_pos (by rw [List.length_map]; show us.length < 16777216; omega), List.take_succ, hx, List.map_append, List.map_append]
      rfl
    · rintro _ ⟨us, v8, v9, v10, hul, hg, rfl⟩
      refine ⟨us, Sv.ro (.int ((n + Ord.tri n : Nat) : Int)), v8, v9, v10, hul, hg, ?_⟩
      rw [List.take_of_length_le (by omega)]
  rintro _ ⟨us, v7, v8, v9, v10, hul, hg, rfl⟩
  have ec : ∃ rows : List (List Int), rows.length = (List.range n).length ∧ (∀ (i : Nat) (b : Nat) (r : List Int), (List.range n)[i]? = some b → rows[i]? = some r → ∀ (t : Nat) (u : List Int), word[t]? = some (b : Int) → us[t]? = some u → r.Perm u ∧ r.Pairwise (· ≤ ·)) ∧
      compF (g1 0) tTrue (eCB tupleM (aCons (eCB sortedM (aCons (eBin ixDM (eVar 1) (eVar 0)) aNil)) aNil)) [none, some (.dic (word.map Sum.inl) (us.map lstI))] ((List.range n).map fun b : Nat => D.int (b : Int)) = some (rows.map tupI) := by
    refine comp_rel (fun b : Nat => D.int (b : Int)) tupI _ (List.range n) fun b hb => ?_
    have hb2 := List.mem_range.mp hb
    have hm : (b : Int) ∈ word := hpw.mem_iff.mpr (List.mem_map.mpr ⟨b, hb, rfl⟩)
    obtain ⟨t, ht⟩ := List.mem_iff_getElem?.mp hm
    obtain ⟨u, hu2⟩ : ∃ u, us[t]? = some u := ⟨_, List.getElem?_eq_getElem (by have := (List.getElem?_eq_some_iff.mp ht).1; omega)⟩
    have lu := lenU _ _ (hg t u hu2)
    refine ⟨_, sortI u, rfl, ?_, fun t' u' e1 e2 => ?_⟩
    · walk_at "ev"
      simp only [ixDM, keyM, Option.bind_some]
      rw [look_word ndw ht hu2]
      simp only [lstI]
      walk_at "ev"
      rw [sorted_ints (by omega)]
      rfl
    · have e := Ord.ix_inj ndw e1 ht
      subst e
      rw [hu2] at e2
      cases e2
      exact ⟨sortI_perm u, sortI_sorted u⟩
  obtain ⟨rows, hr1, hr2, ec⟩ := ec
  rw [List.length_range] at hr1
  refine rt_ret (ordD rows) ?_ ⟨rows, hr1, hg.rows hul hpw hr1 fun b t r u e1 e2 e3 => hr2 b b r (by rw [List.getElem?_range (by have := (List.getElem?_eq_some_iff.mp e1).1; omega)]) e1 t u e2 e3, rfl⟩
  have e6 : (rngP 0 n).map D.int = (List.range n).map fun b : Nat => D.int (b : Int) := by
    unfold rngP
    rw [List.map_map]
    exact List.map_congr_left fun b _ => by show D.int (0 + (b : Int)) = _; rw [Int.zero_add]
  have e7 := compE (nl := 1) (fr := [6]) (it := iRange (aCons (eVar 1) aNil)) (g := g1 0) (t := tTrue) (e := eCB tupleM (aCons (eCB sortedM (aCons (eBin ixDM (eVar 1) (eVar 0)) aNil)) aNil)) (ρ := vAll [Sv.ro (lstI dr), Sv.ro (.int n), Sv.ro (.int th), v3, Sv.ow (lstI word), kv, Sv.ow (.dic (word.map Sum.inl) (us.map lstI)), v7, v8, v9, v10]) ((rngP 0 n).map D.int)
    (by walk_at "ev"; exact rangeM_n (by omega)) (by rw [List.length_map, rngP_length]; omega) (by rw [e6]; exact ec)
  exact cb1E e7 rfl
theorem tri_two (n : Nat) : 2 * Ord.tri n + n = n * n := by
  induction n with
  | zero => rfl
  | succ n ih =>
    show 2 * (Ord.tri n + n) + (n + 1) = (n + 1) * (n + 1)
    have : (n + 1) * (n + 1) = n * n + 2 * n + 1 := by rw [Nat.add_mul, Nat.mul_add]; omega
    omega
theorem drawn_ok (ns : List Int) (k m s : Int) (h0 : 0 ≤ m) (h1 : m ≤ 9) :
    ∃ d, f_l_drawn [.scr ns, .int k, .int m, .int s] = .ok d ∧ ∃ rows : List (List Int), (rows.length : Int) ≤ m ∧ Ord.Rows rows ∧ d = ordD rows := by
  unfold f_l_drawn
  refine run_ok rfl ?_
  obtain ⟨c1, ec1⟩ := cell_ok ns k
  obtain ⟨xs, hx, hxn, ex⟩ := draws_ok c1 4 s (by decide) (by decide)
  obtain ⟨c2, ec2⟩ := cell_ok ns (k + 1)
  obtain ⟨a, b, r, rfl⟩ : ∃ a b r, xs = a :: b :: r := by
    match xs, hx with
    | a :: b :: r, _ => exact ⟨a, b, r, rfl⟩
  have hm0 := Int.emod_nonneg a (show m + 1 ≠ 0 by omega)
  have hm1 := Int.emod_lt_of_pos a (show 0 < m + 1 by omega)
  obtain ⟨n, hn⟩ : ∃ n : Nat, a % (m + 1) = (n : Int) := ⟨(a % (m + 1)).toNat, by omega⟩
  have hn9 : n ≤ 9 := by omega
  have et := tri_two n
  have hq : (n : Int) * ((n : Int) - 1) / 2 = (Ord.tri n : Int) := by
    have : (n : Int) * ((n : Int) - 1) = 2 * (Ord.tri n : Int) := by
      have e2 : ((n * n : Nat) : Int) = (n : Int) * n := by simp
      rw [Int.mul_sub, Int.mul_one]
      omega
    rw [this, Int.mul_ediv_cancel_left _ (by decide)]
  have htri : Ord.tri n ≤ 36 := Ord.tri_le hn9
  obtain ⟨ys, hy, hyn, ey⟩ := draws_ok c2 ((n : Int) + Ord.tri n) (s + 10007) (by omega) (by omega)
  refine rt_seqE _ (setE (lstI (a :: b :: r)) (call3E (call2E rfl rfl ec1) rfl rfl ex) rfl) ?_
  refine rt_seqE _ (setE (.int n) ?_ rfl) ?_
  · simp only [lstI]
    walk_at "ev"
    rw [show atP (D.int a :: D.int b :: r.map D.int) 0 = some (D.int a) from atP_get (k := 0) rfl]
    walk_at "ev"
    rw [modM_int (by omega), hn]
  refine rt_seqE _ (setE (lstI ys) (call3E (call2E rfl rfl ec2) ?_ rfl ey) rfl) ?_
  · walk_at "ev"
    rw [mulM_l (by omega)]
    walk_at "ev"
    rw [divM_int (by decide) (by decide), hq]
    walk_at "ev"
  have hb0 := Int.emod_nonneg b (show (8 : Int) ≠ 0 by decide)
  have hb1 := Int.emod_lt_of_pos b (show (0 : Int) < 8 by decide)
  have hth : ∃ th : Int, eBin ixM (eLst (aCons (eC (.int 1)) (aCons (eC (.int 1)) (aCons (eC (.int 2)) (aCons (eC (.int 2)) (aCons (eC (.int 3)) (aCons (eC (.int 1)) (aCons (eC (.int 0)) (aCons (eC (.int 4)) aNil))))))))) (eBin modM (eBin ixM (eVar 4) (eC (.int 1))) (eC (.int 8))) [some (.scr ns), some (.int k), some (.int m), some (.int s), some (lstI (a :: b :: r)), some (.int n), some (lstI ys)] = some (.int th) := by
    obtain ⟨x, hx, e, _⟩ := atP_ok (xs := [(1 : Int), 1, 2, 2, 3, 1, 0, 4]) (i := b % 8) hb0 hb1
    refine ⟨x, binE (x := .lst ([(1 : Int), 1, 2, 2, 3, 1, 0, 4].map D.int)) rfl (y := .int (b % 8)) ?_ ?_⟩
    · refine binE (x := .int b) (y := .int 8) ?_ rfl (modM_int (by decide))
      simp only [lstI]
      walk_at "ev"
      exact atP_get (k := 1) rfl
    · rw [ixM_lst, atP_map, e]; rfl
  obtain ⟨th, eth⟩ := hth
  obtain ⟨d, ed, rows, hr1, hr2, rfl⟩ := order_ok ys n th hn9 (by omega)
  exact rt_ret (ordD rows) (call3E rfl rfl eth ed) ⟨rows, by omega, hr2, rfl⟩
end LL
end
section
set_option Elab.async false
set_option linter.all false
set_option maxRecDepth 100000
namespace LL
open PySem L3 L4
noncomputable def f_is_thing : FnF := runF 2 2
    (sRet (eChain leM ltM (eC (.int 0)) (eVar 0) (eVar 1)))
noncomputable def f_is_rising : FnF := runF 4 2
    (sSeq (sFor (iEnum (aCons (eVar 0) aNil)) (gN2 2 3)
      (sSeq (sIf (tNot (tV (eCall LL.f_is_thing (aCons (eVar 3) (aCons (eVar 1) aNil)))))
        (sRet (eC (.bl false)))
        sEnd)
      (sIf (tAnd (tV (eBin gtM (eVar 2) (eC (.int 0)))) (tV (eBin geM (eBin ixM (eVar 0) (eBin subM (eVar 2) (eC (.int 1)))) (eVar 3))))
        (sRet (eC (.bl false)))
        sEnd)))
    (sRet (eC (.bl true))))
noncomputable def f_renumbered : FnF := runF 2 2
    (sRet (eCB tupleM (aCons (eComp 2 [0] (iEnum (aCons (eVar 1) aNil)) (g2 0 1) (tV (eBin (inM false) (eVar 1) (eVar 2))) (eVar 0)) aNil)))
noncomputable def f_things_above : FnF := runF 2 2
    (sRet (eCB tupleM (aCons (eComp 2 [1] (iEnum (aCons (eVar 0) aNil)) (g2 0 1) (tV (eBin (inM false) (eVar 2) (eVar 1))) (eVar 0)) aNil)))
noncomputable def f_upside_down : FnF := runF 1 1
    (sRet (eCB tupleM (aCons (eComp 1 [0] (iRange (aCons (eCB lenM (aCons (eVar 0) aNil)) aNil)) (g1 0) tTrue (eCall LL.f_things_above (aCons (eVar 1) (aCons (eVar 0) aNil)))) aNil)))
noncomputable def f_l_put : FnF := runF 7 3
    (sSeq (sSet 3 (eBin addM (eCB listM (aCons (eBin ixM (eVar 0) (eVar 1)) aNil)) (eLst (aCons (eVar 1) aNil))))
    (sSeq (sOwn 4 (eLst aNil))
    (sSeq (sFor (iRange (aCons (eCB lenM (aCons (eVar 0) aNil)) aNil)) (gN1 5)
      (sSeq (sSet 6 (eCB listM (aCons (eBin ixM (eVar 0) (eVar 5)) aNil)))
      (sSeq (sIf (tOr (tV (eBin eqM (eVar 5) (eVar 2))) (tV (eBin (inM false) (eVar 2) (eBin ixM (eVar 0) (eVar 5)))))
        (sSet 6 (eBin addM (eVar 6) (eComp 1 [6] (iWalk (eVar 3)) (g1 0) (tV (eBin (inM true) (eVar 0) (eVar 1))) (eVar 0))))
        sEnd)
      (sX (xM1 4 appM (xPureR (eCB tupleM (aCons (eCB sortedM (aCons (eVar 6) aNil)) aNil))))))))
    (sRet (eCB tupleM (aCons (eVar 4) aNil))))))
end LL
end
section
set_option Elab.async false
set_option linter.all false
set_option maxRecDepth 100000
set_option maxHeartbeats 999999
namespace LL
open PySem L3 L4
noncomputable def plainD : Nat → D → Prop
  | 0, _ => False
  | n + 1, .tup ds => ds.length ≤ 1000000 ∧ ∀ d ∈ ds, plainD n d
  | _ + 1, .int _ => True
  | _ + 1, .bl _ => True
  | _ + 1, .non => True
  | _ + 1, .str _ => True
  | _ + 1, _ => False
theorem isi {T : String} {f : EF} {ρ : DEnv} {d : D} (h : f ρ = some d) (hn : notE d = true := by rfl) : eIsi T f ρ = some (.bl (isTM T d)) := by unfold eIsi; rw [h]; exact if_pos hn
theorem same_refl : ∀ (n : Nat) (d : D), plainD n d → f_l_same n [d, d] = .ok (.bl true)
  | 0, _, h => h.elim
  | n + 1, .tup ds, h => by
    have hl := h.1
    unfold f_l_same
    refine runE rfl (seqR (ifT (by unfold tV; rw [isi rfl]; rfl) (seqE _ (ifF ?_ rfl) (retE ?_))))
    · simp only [startS, sSeq, sIf, sRet, sSet, sSetX, sOwn, sOwnI, sSetF, sOwnD, sX, sFor, sEnd, eVar, eC, eBin, tV, tNot, tAnd, tOr, eAnd, eOr, eNot, eIf, eNeg, eChain, aNil, aCons, eCB, eCall, mOpt, eIsi, iWalk, iRange, iEnum, iZip, iRev, g1, g2, gN1, gN2, pairM, tTrue, benv, eSl, oNo, oE, asInt, xPureR, xM1, ownL, vAll, vRd, Sv.all, Sv.rd, List.map_cons, List.map_nil, List.getElem?_cons_zero, List.getElem?_cons_succ, List.getElem?_nil, Option.join_some, Option.join_none, Option.bind_some, Option.bind_none, Option.map_some, Option.map_none, List.set_cons_zero, List.set_cons_succ, List.set_nil, List.length_cons, List.length_nil, List.length_map, List.cons_append, List.nil_append, List.replicate_succ, List.replicate_zero, Nat.reduceSub, Nat.reduceAdd, Nat.reduceEqDiff, truthM_bl, truthM_lst, truthM_tup, boolM_bl, negM, addM_int, subM_int, ltM_int, leM_int, gtM_int, geM_int, eqM_int, neM_int, eqM_bl, eqM_str, isM_non, isNon, ixM_lst, ixM_tup, ixM_scr, lenM_lst, lenM_tup, lenM_scr, tupleM_lst, tupleM_tup, listM_lst, listM_tup, walkM_lst, walkM_tup, enumM_tup, enumM_lst, revM_tup, revM_lst, if_true, if_false, ite_true, ite_false, reduceIte, decide_true, decide_false, decide_eq_true_eq, Bool.false_eq_true, Bool.not_true, Bool.not_false, inM_tup, inM_lst]
      simp [isTM, tyM, startS, vAll, eIsi, notE, eVar, Sv.all, truthM]
    · have e1 := compE (nl := 1) (fr := [0, 1]) (it := iRange (aCons (eCB lenM (aCons (eVar 1) aNil)) aNil)) (g := g1 0) (t := tTrue) (e := eCall (f_l_same n) (aCons (eBin ixM (eVar 1) (eVar 0)) (aCons (eBin ixM (eVar 2) (eVar 0)) aNil))) (ρ := [some (.tup ds), some (.tup ds)]) ((rngP 0 ds.length).map D.int) (ys := (rngP 0 ds.length).map fun _ => D.bl true)
        (by simp only [startS, sSeq, sIf, sRet, sSet, sSetX, sOwn, sOwnI, sSetF, sOwnD, sX, sFor, sEnd, eVar, eC, eBin, tV, tNot, tAnd, tOr, eAnd, eOr, eNot, eIf, eNeg, eChain, aNil, aCons, eCB, eCall, mOpt, eIsi, iWalk, iRange, iEnum, iZip, iRev, g1, g2, gN1, gN2, pairM, tTrue, benv, eSl, oNo, oE, asInt, xPureR, xM1, ownL, vAll, vRd, Sv.all, Sv.rd, List.map_cons, List.map_nil, List.getElem?_cons_zero, List.getElem?_cons_succ, List.getElem?_nil, Option.join_some, Option.join_none, Option.bind_some, Option.bind_none, Option.map_some, Option.map_none, List.set_cons_zero, List.set_cons_succ, List.set_nil, List.length_cons, List.length_nil, List.length_map, List.cons_append, List.nil_append, List.replicate_succ, List.replicate_zero, Nat.reduceSub, Nat.reduceAdd, Nat.reduceEqDiff, truthM_bl, truthM_lst, truthM_tup, boolM_bl, negM, addM_int, subM_int, ltM_int, leM_int, gtM_int, geM_int, eqM_int, neM_int, eqM_bl, eqM_str, isM_non, isNon, ixM_lst, ixM_tup, ixM_scr, lenM_lst, lenM_tup, lenM_scr, tupleM_lst, tupleM_tup, listM_lst, listM_tup, walkM_lst, walkM_tup, enumM_tup, enumM_lst, revM_tup, revM_lst, if_true, if_false, ite_true, ite_false, reduceIte, decide_true, decide_false, decide_eq_true_eq, Bool.false_eq_true, Bool.not_true, Bool.not_false, inM_tup, inM_lst]; exact rangeM_n (by omega)) (by rw [List.length_map, rngP_length]; omega) (comp_mapA D.int (fun _ => D.bl true) (rngP 0 ds.length) fun k hk => by
          have hk := rngP_mem.mp hk
          obtain ⟨x, hx, e, _⟩ := atP_ok (xs := ds) (i := k) (by omega) (by omega)
          show eCall (f_l_same n) _ _ = _
          exact call2E (binE rfl rfl e) (binE rfl rfl e) (same_refl n x (h.2 x hx)))
      refine cb1E e1 ?_
      have : (rngP 0 ds.length).map (fun _ => D.bl true) = ((rngP 0 ds.length).map fun _ => true).map D.bl := by rw [List.map_map]; rfl
      rw [this, all_bls]
      congr 2
      simp
  | n + 1, .int i, _ => by
    unfold f_l_same
    refine runE rfl (seqE _ (ifF rfl rfl) (seqE _ (ifF rfl rfl) (seqE _ (ifF rfl rfl) (seqR (ifT rfl (retE ?_))))))
    show eAnd _ _ _ = _
    simp [eAnd, eNot, eIsi, notE, eVar, isTM, tyM, boolM, eBin, eqM_int, eqM_bl, eqM_str, startS, vAll, Sv.all]
  | n + 1, .bl b, _ => by
    unfold f_l_same
    refine runE rfl (seqE _ (ifF rfl rfl) (seqE _ (ifF rfl rfl) (seqR (ifT rfl (retE ?_)))))
    simp [eAnd, eNot, eIsi, notE, eVar, isTM, tyM, boolM, eBin, eqM_int, eqM_bl, eqM_str, startS, vAll, Sv.all]
  | n + 1, .non, _ => by
    unfold f_l_same
    exact runE rfl (seqE _ (ifF rfl rfl) (seqR (ifT rfl (retE rfl))))
  | n + 1, .str x, _ => by
    unfold f_l_same
    refine runE rfl (seqE _ (ifF rfl rfl) (seqE _ (ifF rfl rfl) (seqE _ (ifF rfl rfl) (seqE _ (ifF rfl rfl) (retE ?_)))))
    simp [eAnd, eNot, eIsi, notE, eVar, isTM, tyM, boolM, eBin, eqM_int, eqM_bl, eqM_str, startS, vAll, Sv.all]
  | n + 1, .lst _, h => h.elim
  | n + 1, .scr _, h => h.elim
  | n + 1, .dic _ _, h => h.elim
  | n + 1, .dicT _ _ _, h => h.elim
  | n + 1, .exc _ _, h => h.elim
  | n + 1, .rws _, h => h.elim
theorem loop_allA {α : Type} {g : GSF} {b : SF} {z : D} (P : SEnv → Prop) (mk : α → D) (ok : α → Bool) : ∀ (l : List α) (ρ : SEnv), P ρ → (∀ a ∈ l, ∀ ρ, P ρ → ∃ ρ1, g (mk a) ρ = some ρ1 ∧ (ok a = true → Nx (b ρ1) P) ∧ (ok a = false → b ρ1 = .rt z)) →
    (l.all ok = true → Nx (loopF g b (l.map mk) ρ) P) ∧ (l.all ok = false → loopF g b (l.map mk) ρ = .rt z)
  | [], ρ, h, _ => ⟨fun _ => ⟨ρ, rfl, h⟩, fun e => by cases e⟩
  | a :: l, ρ, h, step => by
    obtain ⟨ρ1, e1, h1, h2⟩ := step a (by simp) ρ h
    cases hd : ok a with
    | true =>
      obtain ⟨ρ2, e2, p2⟩ := h1 hd
      have ih := loop_allA P mk ok l ρ2 p2 fun d' hd' => step d' (by simp [hd'])
      simp only [List.map_cons, loopF, e1, e2, List.all_cons, hd, Bool.true_and]
      exact ih
    | false =>
      have e2 := h2 hd
      simp only [List.map_cons, loopF, e1, e2, List.all_cons, hd, Bool.false_and]
      exact ⟨fun e => (by cases e), fun _ => trivial⟩
end LL
end
section
set_option Elab.async false
set_option linter.all false
set_option maxRecDepth 100000
set_option maxHeartbeats 999999
namespace LL
open PySem L3 L4
noncomputable def row (rows : List (List Int)) (b : Int) : List Int := (rows[b.toNat]?).getD []
theorem ord_at {rows : List (List Int)} {i : Int} (h0 : 0 ≤ i) (h1 : i < rows.length) : ixM (ordD rows) (.int i) = some (tupI (row rows i)) := by
  have hl : i.toNat < rows.length := by omega
  rw [show ordD rows = .tup (rows.map tupI) from rfl, ixM_tup, atP_map]
  unfold atP row
  rw [ixP_ok h0 h1]
  simp [hl]
theorem in_tup {i : Int} {xs : List Int} : inM false (.int i) (tupI xs) = some (.bl (xs.contains i)) := by
  unfold tupI; rw [inM_tup]; rfl
theorem nin_tup {i : Int} {xs : List Int} : inM true (.int i) (tupI xs) = some (.bl (!xs.contains i)) := by
  unfold tupI; rw [inM_tup]; rfl
theorem len_ord {rows : List (List Int)} : lenM [ordD rows] = some (.int rows.length) := by unfold ordD; rw [lenM_tup, List.length_map]
theorem zipIdx_map {α β : Type} (f : α → β) (l : List α) (m : Nat) : (l.map f).zipIdx m = (l.zipIdx m).map fun p => (f p.1, p.2) := by
  induction l generalizing m with
  | nil => rfl
  | cons a l ih => simp [List.zipIdx_cons, ih]
theorem is_thing_ok (a n : Int) : f_is_thing [.int a, .int n] = .ok (.bl (decide (0 ≤ a) && decide (a < n))) := by
  unfold f_is_thing
  refine runE rfl (retE ?_)
  show eChain leM ltM (eC (.int 0)) (eVar 0) (eVar 1) [some (.int a), some (.int n)] = _
  unfold eChain
  simp only [eC, eVar, List.getElem?_cons_zero, List.getElem?_cons_succ, Option.join_some, Option.bind_some, leM_int, ltM_int, boolM_bl]
  by_cases h : 0 ≤ a
  · simp [h]
  · simp [h]
noncomputable def looseB (rows : List (List Int)) (a b : Int) : Bool := !decide (a = b) && (!(row rows b).contains a && !(row rows a).contains b)
noncomputable def looseAt (rows : List (List Int)) (a : Int) : List (Int × Int) := ((rngP (a + 1) (rows.length - (a + 1)).toNat).filter fun b => looseB rows a b).map fun b => (a, b)
noncomputable def loose (rows : List (List Int)) : List (Int × Int) := (rngP 0 rows.length).flatMap (looseAt rows)
end LL
end
section
set_option Elab.async false
set_option linter.all false
set_option maxRecDepth 100000
namespace Ord
noncomputable def rel (rows : List (List Int)) (a b : Nat) : Bool := (rows.getD b []).contains (a : Int)
end Ord
end
section
set_option Elab.async false
set_option linter.all false
set_option maxRecDepth 100000
set_option maxHeartbeats 999999
namespace Ord
theorem Rows.short {x : List (List Int)} (h : Rows x) {r : List Int} (hr : r ∈ x) : r.length ≤ x.length := by
  obtain ⟨b, hb⟩ := List.mem_iff_getElem?.mp hr
  have nd : r.Nodup := (h.up b r hb).imp fun q => by omega
  have := length_sub r (L4.rngP 0 x.length) nd fun a ha => LL.rngP_mem.mpr (by have := h.rng b r hb a ha; omega)
  rwa [LL.rngP_length] at this
end Ord
end
section
set_option Elab.async false
set_option linter.all false
set_option maxRecDepth 100000
namespace K45
open PySem L3 L4
noncomputable def f_names_in_row_turned : FnF := runF 2 2
    (sRet (eCB tupleM (aCons (eComp 1 [1] (iRev (aCons (eVar 0) aNil)) (g1 0) tTrue (eBin subM (eBin subM (eVar 1) (eC (.int 1))) (eVar 0))) aNil)))
noncomputable def f_names_turned : FnF := runF 1 1
    (sRet (eCB tupleM (aCons (eComp 1 [0] (iRev (aCons (eVar 0) aNil)) (g1 0) tTrue (eCall f_names_in_row_turned (aCons (eVar 0) (aCons (eCB lenM (aCons (eVar 1) aNil)) aNil)))) aNil)))
noncomputable def f_l_ties : FnF := runF 3 1
    (sSeq (sSet 1 (eLst aNil))
    (sSeq (sFor (iRange (aCons (eCB lenM (aCons (eVar 0) aNil)) aNil)) (gN1 2)
      (sSet 1 (eBin addM (eVar 1) (eComp 1 [2] (iWalk (eBin ixM (eVar 0) (eVar 2))) (g1 0) tTrue (eTup (aCons (eVar 0) (aCons (eVar 1) aNil)))))))
    (sRet (eCB sortTM (aCons (eVar 1) aNil)))))
noncomputable def f_l_from : FnF := runF 2 2
    (sRet (eCB tupleM (aCons (eComp 1 [1] (iRange (aCons (eVar 0) aNil)) (g1 0) tTrue (eCB tupleM (aCons (eCB sortedM (aCons (eComp 2 [0] (iWalk (eVar 1)) (g2 0 1) (tV (eBin eqM (eVar 1) (eVar 2))) (eVar 0)) aNil)) aNil))) aNil)))
noncomputable def f_law : FnF := runF 7 1
    (sSeq (sSet 1 (eCall LL.f_l_drawn (aCons (eVar 0) (aCons (eC (.int 0)) (aCons (eC (.int 9)) (aCons (eC (.int 100003)) aNil))))))
    (sSeq (sSet 2 (eCB lenM (aCons (eVar 1) aNil)))
    (sSeq (sSet 3 (eCall f_l_ties (aCons (eVar 1) aNil)))
    (sSeq (sSet 4 (eCall f_l_from (aCons (eVar 2) (aCons (eComp 2 [2] (iWalk (eVar 3)) (g2 0 1) tTrue (eTup (aCons (eBin subM (eBin subM (eVar 2) (eC (.int 1))) (eVar 0)) (aCons (eBin subM (eBin subM (eVar 2) (eC (.int 1))) (eVar 1)) aNil)))) aNil))))
    (sSeq (sSet 5 (eCall f_l_from (aCons (eVar 2) (aCons (eComp 2 [] (iWalk (eVar 3)) (g2 0 1) tTrue (eTup (aCons (eVar 1) (aCons (eVar 0) aNil)))) aNil))))
    (sSeq (sSet 6 (eCall f_l_from (aCons (eVar 2) (aCons (eComp 2 [2] (iWalk (eVar 3)) (g2 0 1) tTrue (eTup (aCons (eBin subM (eBin subM (eVar 2) (eC (.int 1))) (eVar 1)) (aCons (eBin subM (eBin subM (eVar 2) (eC (.int 1))) (eVar 0)) aNil)))) aNil))))
    (sSeq (sIf (tOr (tNot (tV (eCall (LL.f_l_same 6) (aCons (eCall f_names_turned (aCons (eVar 1) aNil)) (aCons (eVar 4) aNil))))) (tNot (tV (eCall (LL.f_l_same 6) (aCons (eCall LL.f_upside_down (aCons (eVar 1) aNil)) (aCons (eVar 5) aNil))))))
      (sRet (eC (.bl false)))
      sEnd)
    (sSeq (sIf (tOr (tNot (tV (eCall (LL.f_l_same 6) (aCons (eCall f_names_turned (aCons (eVar 4) aNil)) (aCons (eVar 1) aNil))))) (tNot (tV (eCall (LL.f_l_same 6) (aCons (eCall LL.f_upside_down (aCons (eVar 5) aNil)) (aCons (eVar 1) aNil))))))
      (sRet (eC (.bl false)))
      sEnd)
    (sRet (eAnd (eCall (LL.f_l_same 6) (aCons (eCall f_names_turned (aCons (eVar 5) aNil)) (aCons (eVar 6) aNil))) (eCall (LL.f_l_same 6) (aCons (eCall LL.f_upside_down (aCons (eVar 4) aNil)) (aCons (eVar 6) aNil)))))))))))))
end K45
end
section
set_option Elab.async false
set_option linter.all false
set_option maxRecDepth 100000
set_option maxHeartbeats 999999
namespace K45
open PySem L3 L4 LL
noncomputable def pr (p : Int × Int) : List Int := [p.1, p.2]
noncomputable def tiesL (x : List (List Int)) (k : Nat) : List (Int × Int) := (rngP 0 k).flatMap fun b => (row x b).map fun a => (a, b)
noncomputable def un (t : List Int) : Int × Int := (t.getD 0 0, t.getD 1 0)
noncomputable def srt (l : List (Int × Int)) : List (Int × Int) := (sortT (l.map pr)).map un
end K45
end
section
set_option Elab.async false
set_option linter.all false
set_option maxRecDepth 100000
namespace K03
open PySem L3 L4
noncomputable def f_ties_of : FnF := runF 4 1
    (sSeq (sOwn 1 (eLst aNil))
    (sSeq (sFor (iEnum (aCons (eVar 0) aNil)) (gN2 2 3)
      (sX (xM1 1 extM (xPureR (eComp 1 [2] (iWalk (eVar 3)) (g1 0) tTrue (eTup (aCons (eVar 0) (aCons (eVar 1) aNil))))))))
    (sRet (eCB tupleM (aCons (eCB sortTM (aCons (eVar 1) aNil)) aNil)))))
noncomputable def f_is_bare : FnF := runF 4 2
    (sSeq (sSet 2 (eBin ixM (eVar 1) (eC (.int 0))))
    (sSeq (sSet 3 (eBin ixM (eVar 1) (eC (.int 1))))
    (sRet (eNot (eCB anyM (aCons (eComp 1 [2, 0] (iWalk (eBin ixM (eVar 0) (eVar 3))) (g1 0) tTrue (eBin (inM false) (eVar 1) (eBin ixM (eVar 2) (eVar 0)))) aNil))))))
noncomputable def f_bare_ties : FnF := runF 1 1
    (sRet (eCB tupleM (aCons (eComp 1 [0] (iWalk (eCall f_ties_of (aCons (eVar 0) aNil))) (g1 0) (tV (eCall f_is_bare (aCons (eVar 1) (aCons (eVar 0) aNil)))) (eVar 0)) aNil)))
noncomputable def f_l_ties : FnF := runF 3 1
    (sSeq (sSet 1 (eLst aNil))
    (sSeq (sFor (iRange (aCons (eCB lenM (aCons (eVar 0) aNil)) aNil)) (gN1 2)
      (sSet 1 (eBin addM (eVar 1) (eComp 1 [2] (iWalk (eBin ixM (eVar 0) (eVar 2))) (g1 0) tTrue (eTup (aCons (eVar 0) (aCons (eVar 1) aNil)))))))
    (sRet (eCB sortTM (aCons (eVar 1) aNil)))))
noncomputable def f_l_closed : FnF := runF 9 2
    (sSeq (sOwn 2 (eLst aNil))
    (sSeq (sFor (iRange (aCons (eVar 0) aNil)) (gN1 3)
      (sSeq (sOwn 4 (eLst aNil))
      (sSeq (sOwn 5 (eLst (aCons (eVar 3) aNil)))
      (sSeq (sWhile whileN (tV (eBin gtM (eCB lenM (aCons (eVar 5) aNil)) (eC (.int 0))))
        (sSeq (sSetX 6 (xPop0 5))
        (sFor (iWalk (eVar 1)) (gN2 7 8)
          (sIf (tAnd (tV (eBin eqM (eVar 8) (eVar 6))) (tV (eBin (inM true) (eVar 7) (eVar 4))))
            (sSeq (sX (xM1 4 appM (xPureR (eVar 7))))
            (sX (xM1 5 appM (xPureR (eVar 7)))))
            sEnd))))
      (sSeq (sIf (tV (eBin (inM false) (eVar 3) (eVar 4)))
        (sRet (eC .non))
        sEnd)
      (sX (xM1 2 appM (xPure (eCB tupleM (aCons (eCB sortedM (aCons (eVar 4) aNil)) aNil))))))))))
    (sRet (eCB tupleM (aCons (eVar 2) aNil)))))
noncomputable def f_l_bare : FnF := runF 5 1
    (sSeq (sOwn 1 (eLst aNil))
    (sSeq (sFor (iWalk (eCall f_l_ties (aCons (eVar 0) aNil))) (gN2 2 3)
      (sSeq (sSet 4 (eComp 1 [2, 0, 3] (iRange (aCons (eCB lenM (aCons (eVar 0) aNil)) aNil)) (g1 0) (tAnd (tV (eBin (inM false) (eVar 1) (eBin ixM (eVar 2) (eVar 0)))) (tV (eBin (inM false) (eVar 0) (eBin ixM (eVar 2) (eVar 3))))) (eVar 0)))
      (sIf (tV (eBin eqM (eCB lenM (aCons (eVar 4) aNil)) (eC (.int 0))))
        (sX (xM1 1 appM (xPureR (eTup (aCons (eVar 2) (aCons (eVar 3) aNil))))))
        sEnd)))
    (sRet (eVar 1))))
noncomputable def f_l_right : FnF := runF 2 1
    (sSeq (sSet 1 (eCall f_bare_ties (aCons (eVar 0) aNil)))
    (sSeq (sIf (tOr (tNot (tV (eCall (LL.f_l_same 6) (aCons (eCall f_ties_of (aCons (eVar 0) aNil)) (aCons (eCB tupleM (aCons (eCall f_l_ties (aCons (eVar 0) aNil)) aNil)) aNil))))) (tNot (tV (eCall (LL.f_l_same 6) (aCons (eVar 1) (aCons (eCB tupleM (aCons (eCall f_l_bare (aCons (eVar 0) aNil)) aNil)) aNil))))))
      (sRet (eC (.bl false)))
      sEnd)
    (sRet (eBin eqTM (eCall f_l_closed (aCons (eCB lenM (aCons (eVar 0) aNil)) (aCons (eVar 1) aNil))) (eVar 0)))))
noncomputable def f_law : FnF := runF 3 1
    (sSeq (sSet 1 (eCall LL.f_l_drawn (aCons (eVar 0) (aCons (eC (.int 0)) (aCons (eC (.int 9)) (aCons (eC (.int 100003)) aNil))))))
    (sSeq (sSet 2 (eCall LL.f_l_drawn (aCons (eVar 0) (aCons (eC (.int 2)) (aCons (eC (.int 9)) (aCons (eC (.int 300007)) aNil))))))
    (sRet (eAnd (eCall f_l_right (aCons (eVar 1) aNil)) (eAnd (eCall f_l_right (aCons (eVar 2) aNil)) (eCall f_l_right (aCons (eVar 1) aNil)))))))
end K03
end
section
set_option Elab.async false
set_option linter.all false
set_option maxRecDepth 100000
set_option maxHeartbeats 999999
namespace K03
open PySem L3 L4 LL K45
section
variable {x : List (List Int)} (hx : Ord.Rows x)
include hx
end
noncomputable def isBare (x : List (List Int)) (p : Int × Int) : Bool := !(row x p.2).any fun c => (row x c).contains p.1
structure Cl (x : List (List Int)) (P : List (Int × Int)) (b : Int) (u f : List Int) : Prop where
  nd : u.Nodup
  sub : ∀ a ∈ u, a ∈ row x b
  fr : ∀ a ∈ f, a = b ∨ a ∈ u
  cl : ∀ c, (c = b ∨ c ∈ u) → c ∉ f → ∀ a, (a, c) ∈ P → a ∈ u
noncomputable abbrev T (x : List (List Int)) : List (Int × Int) := srt (tiesL x x.length)
noncomputable abbrev B (x : List (List Int)) : List (Int × Int) := (T x).filter (isBare x)
end K03
end
section
set_option Elab.async false
set_option linter.all false
set_option maxRecDepth 100000
namespace LL
open PySem L3 L4
noncomputable def f_l_great : FnF := runF 5 3
    (sSeq (sIf (tV (eBin geM (eVar 0) (eBin powM (eC (.int 10)) (eC (.int 18)))))
      (sRet (eBin modM (eBin divM (eVar 0) (eC (.int 64))) (eVar 1)))
      sEnd)
    (sSeq (sSet 3 (eC (.int 0)))
    (sSeq (sFor (iRange (aCons (eC (.int 20)) aNil)) (gN1 4)
      (sSet 3 (eBin addM (eBin mulM (eVar 3) (eC (.int 1000000007))) (eCall LL.f_l_mixed (aCons (eVar 0) (aCons (eVar 4) (aCons (eVar 2) aNil)))))))
    (sRet (eBin modM (eVar 3) (eVar 1))))))
end LL
end
section
set_option Elab.async false
set_option linter.all false
set_option maxRecDepth 100000
set_option maxHeartbeats 999999
namespace LL
open PySem L3 L4
theorem pow_ok {i : Int} {j : Int} (ρ : DEnv) (h : (decide ((0 : Int) ≤ j) && decide (j.natAbs ≤ 1000000) && decide (i.natAbs < 18446744073709551616)) = true) : eBin powM (eC (.int i)) (eC (.int j)) ρ = some (.int (i ^ j.toNat)) :=
  binE rfl rfl (if_pos h)
theorem most_ok (ρ : DEnv) : eBin powGM (eBin powM (eC (.int 10)) (eC (.int 60))) (eC (.int 10)) ρ = some (.int (((10 : Int) ^ 60) ^ 10)) := by
  refine binE (x := .int ((10 : Int) ^ 60)) (y := .int 10) (pow_ok (i := 10) (j := 60) ρ (by decide +kernel)) rfl ?_
  show (if (decide ((0 : Int) ≤ 10) && decide ((10 : Int) ≤ 100) && decide (((10 : Int) ^ 60).natAbs < 2 ^ 1000)) = true then some (D.int (((10 : Int) ^ 60) ^ (10 : Int).toNat)) else none) = _
  exact if_pos (by decide +kernel)
noncomputable def at0 (fl : List Int) (a : Int) : Int := (fl[a.toNat]?).getD 0
theorem at_tup {fl : List Int} {a : Int} (h0 : 0 ≤ a) (h1 : a < (fl.length : Int)) : ixM (tupI fl) (.int a) = some (.int (at0 fl a)) := by
  obtain ⟨x, _, e, e2⟩ := atP_ok h0 h1
  show atP (fl.map D.int) a = _
  rw [atP_map, e]
  unfold at0
  rw [e2]
  rfl
theorem at_lst {fl : List Int} {a : Int} (h0 : 0 ≤ a) (h1 : a < (fl.length : Int)) : ixM (lstI fl) (.int a) = some (.int (at0 fl a)) := at_tup h0 h1
end LL
end
section
set_option Elab.async false
set_option linter.all false
set_option maxRecDepth 100000
set_option maxHeartbeats 999999
namespace LL
open PySem L3 L4
end LL
end
section
set_option Elab.async false
set_option linter.all false
set_option maxRecDepth 100000
namespace LL
open PySem L3 L4
end LL
end
section
set_option Elab.async false
set_option linter.all false
set_option maxRecDepth 100000
set_option maxHeartbeats 999999
namespace LL
open PySem L3 L4
noncomputable def both (r l : List Int) : List Int := sortI (nubI (r ++ l))
noncomputable def putR (b : Int) (lower : List Int) (p : List Int × Nat) : List Int := if decide ((p.2 : Int) = b) || p.1.contains b then both p.1 lower else p.1
noncomputable def put (x : List (List Int)) (a b : Int) : List (List Int) := x.zipIdx.map (putR b (row x a ++ [a]))
end LL
end
section
set_option Elab.async false
set_option linter.all false
set_option maxRecDepth 100000
namespace LL
open PySem L3 L4
end LL
end
section
set_option Elab.async false
set_option linter.all false
set_option maxRecDepth 100000
set_option maxHeartbeats 999999
namespace LL
open PySem L3 L4 K03 K45
end LL
end
section
set_option Elab.async false
set_option linter.all false
set_option maxRecDepth 100000
set_option maxHeartbeats 999999
namespace LL
open PySem L3 L4
noncomputable def f_joined : FnF := runF 2 2
    (sRet (eCB tupleM (aCons (eCB sortedPM (aCons (eBin addM (eVar 0) (eTup (aCons (eVar 1) aNil))) aNil)) aNil)))
noncomputable def f_ready_things : FnF := runF 3 2
    (sSeq (sSet 2 (eComp 1 [1] (iRange (aCons (eCB lenM (aCons (eVar 0) aNil)) aNil)) (g1 0) (tV (eBin (inM true) (eVar 0) (eVar 1))) (eVar 0)))
    (sRet (eComp 1 [1, 0] (iWalk (eVar 2)) (g1 0) (tV (eCB allM (aCons (eComp 1 [1] (iWalk (eBin ixM (eVar 2) (eVar 0))) (g1 0) tTrue (eBin (inM false) (eVar 0) (eVar 1))) aNil))) (eVar 0))))
noncomputable def readyI (x : List (List Int)) (a : List Int) : List Int := ((rngP 0 x.length).filter fun t => !a.contains t).filter fun t => (row x t).all fun l => a.contains l
end LL
end
section
set_option Elab.async false
set_option linter.all false
set_option maxRecDepth 100000
set_option maxHeartbeats 999999
namespace L7
open PySem L3 L4 LL
section
variable (rd : List Int → List (List Int))
noncomputable def Wf : Nat → List Int → Int
  | 0, _ => 1
  | m + 1, a => ((rd a).map (Wf m)).sum
end
end L7
end
section
set_option linter.all false
namespace K24
--CUT
end K24
end
section
set_option Elab.async false
set_option linter.all false
set_option maxRecDepth 100000
namespace LL
open PySem L3 L4
noncomputable def f_added : FnF := runF 2 2
    (sRet (eComp 2 [] (iZipL (aCons (eVar 0) (aCons (eVar 1) aNil))) (g2 0 1) tTrue (eBin addM (eVar 0) (eVar 1))))
noncomputable def f_one_descent_more : FnF := runF 1 1
    (sRet (eBin addM (eLst (aCons (eC (.int 0)) aNil)) (eSl (eVar 0) oNo (oE (eNeg (eC (.int 1)))))))
noncomputable def f_find_shares : Nat → FnM
  | 0 => fun _ _ => .no
  | n + 1 => runM 8 4
    ((sSeq (sSet 4 (eTup (aCons (eVar 1) (aCons (eVar 2) aNil))))
    (sIf (tV (eBin (inXM true) (eVar 4) (eVar 3)))
      (sSeq (sOwn 5 (eBin repLM (eLst (aCons (eC (.int 0)) aNil)) (eCB max2M (aCons (eCB lenM (aCons (eVar 0) aNil)) (aCons (eC (.int 1)) aNil)))))
      (sSeq (sIf (tV (eBin eqM (eCB lenM (aCons (eVar 1) aNil)) (eCB lenM (aCons (eVar 0) aNil))))
        (sPut 5 (xPureR (eC (.int 1))) (eC (.int 0)))
        sEnd)
      (sSeq (sFrz 5 (sFor (iWalk (eCall LL.f_ready_things (aCons (eVar 0) (aCons (eVar 1) aNil)))) (gN1 6)
        (sSeq (sCallM 7 (f_find_shares n) (aCons (eVar 0) (aCons (eCall LL.f_joined (aCons (eVar 1) (aCons (eVar 6) aNil))) (aCons (eVar 6) aNil))) 3)
        (sSet 5 (eCall LL.f_added (aCons (eVar 5) (aCons (eIf (tV (eBin gtM (eVar 2) (eVar 6))) (eCall LL.f_one_descent_more (aCons (eVar 7) aNil)) (eVar 7)) aNil)))))))
      (sPutX 3 (xPureR (eVar 5)) (eVar 4)))))
      sEnd)))
    (eVar 4)
noncomputable def f_shares_on : FnF := runF 2 1
    (sSeq (sOwnX 1)
    (sSeq (sDoM (LL.f_find_shares 11) (aCons (eVar 0) (aCons (eTup aNil) (aCons (eC (.int 0)) aNil))) 1)
    (sRet (eVar 1))))
noncomputable def f_shares_by_descents : FnF := runF 1 1
    (sRet (eCB tupleM (aCons (eBin ixXM (eCall LL.f_shares_on (aCons (eVar 0) aNil)) (eTup (aCons (eTup aNil) (aCons (eC (.int 0)) aNil)))) aNil)))
noncomputable def f_chosen : FnF := runF 4 2
    (sSeq (sSet 2 (eC (.int 1)))
    (sSeq (sFor (iRange (aCons (eVar 1) aNil)) (gN1 3)
      (sSet 2 (eBin divM (eBin mulM (eVar 2) (eBin subM (eVar 0) (eVar 3))) (eBin addM (eVar 3) (eC (.int 1))))))
    (sRet (eVar 2))))
noncomputable def f_sum_over_descents : FnF := runF 3 3
    (sRet (eCB sumM (aCons (eComp 2 [1, 2] (iEnum (aCons (eVar 0) aNil)) (g2 0 1) tTrue (eBin mulM (eVar 1) (eCall LL.f_chosen (aCons (eBin subM (eBin subM (eBin addM (eVar 3) (eVar 2)) (eC (.int 1))) (eVar 0)) (aCons (eVar 2) aNil))))) aNil)))
noncomputable def f_count_at : FnF := runF 2 2
    (sRet (eCall LL.f_sum_over_descents (aCons (eCall LL.f_shares_by_descents (aCons (eVar 0) aNil)) (aCons (eCB lenM (aCons (eVar 0) aNil)) (aCons (eVar 1) aNil)))))
noncomputable def f_times_k_and : FnF := runF 2 2
    (sRet (eComp 2 [1] (iZipL (aCons (eBin addM (eVar 0) (eLst (aCons (eC (.int 0)) aNil))) (aCons (eBin addM (eLst (aCons (eC (.int 0)) aNil)) (eVar 0)) aNil))) (g2 0 1) tTrue (eBin addM (eBin mulM (eVar 2) (eVar 0)) (eVar 1))))
noncomputable def f_product_of_steps : FnF := runF 5 3
    (sSeq (sSet 3 (eLst (aCons (eVar 0) aNil)))
    (sSeq (sFor (iRange (aCons (eVar 2) aNil)) (gN1 4)
      (sSet 3 (eCall LL.f_times_k_and (aCons (eVar 3) (aCons (eBin subM (eVar 1) (eVar 4)) aNil)))))
    (sRet (eVar 3))))
noncomputable def f_polynomial : FnF := runF 5 1
    (sSeq (sSet 1 (eCB lenM (aCons (eVar 0) aNil)))
    (sSeq (sSet 2 (eBin repLM (eLst (aCons (eC (.int 0)) aNil)) (eBin addM (eVar 1) (eC (.int 1)))))
    (sSeq (sFor (iEnum (aCons (eCall LL.f_shares_by_descents (aCons (eVar 0) aNil)) aNil)) (gN2 3 4)
      (sSet 2 (eCall LL.f_added (aCons (eVar 2) (aCons (eCall LL.f_product_of_steps (aCons (eVar 4) (aCons (eBin subM (eBin subM (eVar 1) (eC (.int 1))) (eVar 3)) (aCons (eVar 1) aNil)))) aNil)))))
    (sRet (eCB tupleM (aCons (eVar 2) aNil))))))
noncomputable def f_first_differences : FnF := runF 3 1
    (sSeq (sOwn 1 (eLst aNil))
    (sSeq (sSet 2 (eVar 0))
    (sSeq (sWhile whileN (tV (eVar 2))
      (sSeq (sX (xM1 1 appM (xPureR (eBin ixM (eVar 2) (eC (.int 0))))))
      (sSet 2 (eComp 2 [] (iZipL (aCons (eVar 2) (aCons (eSl (eVar 2) (oE (eC (.int 1))) oNo) aNil))) (g2 0 1) tTrue (eBin subM (eVar 1) (eVar 0))))))
    (sRet (eCB tupleM (aCons (eVar 1) aNil))))))
noncomputable def f_shares_by_steps : FnF := runF 3 1
    (sSeq (sSet 1 (eCB lenM (aCons (eVar 0) aNil)))
    (sSeq (sSet 2 (eCall LL.f_shares_by_descents (aCons (eVar 0) aNil)))
    (sRet (eCall LL.f_first_differences (aCons (eComp 1 [2, 1] (iRange (aCons (eBin addM (eVar 1) (eC (.int 1))) aNil)) (g1 0) tTrue (eCall LL.f_sum_over_descents (aCons (eVar 1) (aCons (eVar 2) (aCons (eVar 0) aNil))))) aNil)))))
noncomputable def f_l_chosen : FnF := runF 5 2
    (sSeq (sSet 2 (eC (.int 1)))
    (sSeq (sSet 3 (eC (.int 1)))
    (sSeq (sFor (iRange (aCons (eVar 1) aNil)) (gN1 4)
      (sSeq (sSet 2 (eBin mulM (eVar 2) (eBin subM (eVar 0) (eVar 4))))
      (sSet 3 (eBin mulM (eVar 3) (eBin addM (eVar 4) (eC (.int 1)))))))
    (sRet (eBin divM (eVar 2) (eVar 3))))))
noncomputable def f_l_tuple : FnF := runF 2 2
    (sSeq (sIf (tOr (tNot (tV (eIsi "tuple" (eVar 0)))) (tV (eBin neM (eCB lenM (aCons (eVar 0) aNil)) (eVar 1))))
      (sRet (eC (.bl false)))
      sEnd)
    (sRet (eCB allM (aCons (eComp 1 [] (iWalk (eVar 0)) (g1 0) tTrue (eAnd (eIsi "int" (eVar 0)) (eNot (eIsi "bool" (eVar 0))))) aNil))))
noncomputable def f_l_any_k : FnF := runF 5 3
    (sSeq (sSet 3 (eCall LL.f_l_draws (aCons (eCall LL.f_l_cell (aCons (eVar 0) (aCons (eVar 1) aNil))) (aCons (eC (.int 3)) (aCons (eVar 2) aNil)))))
    (sSeq (sIf (tV (eBin eqM (eBin modM (eBin ixM (eVar 3) (eC (.int 0))) (eC (.int 3))) (eC (.int 0))))
      (sRet (eBin subM (eBin modM (eBin ixM (eVar 3) (eC (.int 1))) (eC (.int 25))) (eC (.int 12))))
      sEnd)
    (sSeq (sSet 4 (eCall LL.f_l_great (aCons (eCall LL.f_l_cell (aCons (eVar 0) (aCons (eBin addM (eVar 1) (eC (.int 1))) aNil))) (aCons (eBin ixM (eLst (aCons (eBin powM (eC (.int 10)) (eC (.int 4))) (aCons (eBin powM (eC (.int 10)) (eC (.int 20))) (aCons (eBin powM (eC (.int 10)) (eC (.int 59))) aNil)))) (eBin modM (eBin ixM (eVar 3) (eC (.int 1))) (eC (.int 3)))) (aCons (eBin addM (eVar 2) (eC (.int 70001))) aNil)))))
    (sRet (eBin mulM (eVar 4) (eBin subM (eC (.int 1)) (eBin mulM (eC (.int 2)) (eBin modM (eBin ixM (eVar 3) (eC (.int 2))) (eC (.int 2))))))))))
end LL
end
section
set_option Elab.async false
set_option linter.all false
set_option maxRecDepth 100000
namespace LL
open PySem L3 L4
end LL
end
section
set_option Elab.async false
set_option linter.all false
set_option maxRecDepth 100000
set_option maxHeartbeats 999999
namespace LL
open PySem L3 L4
section
variable (x : List (List Int))
end
end LL
end
section
set_option Elab.async false
set_option linter.all false
set_option maxRecDepth 100000
set_option maxHeartbeats 999999
namespace LL
open PySem L3 L4 K24
theorem appE {i : Nat} {f : EF} {ρ : SEnv} {ds : List D} {d : D} (h1 : f (vRd ρ) = some d) (h2 : ρ[i]? = some (.ow (.lst ds))) (hl : ds.length < 16777216) : sX (xM1 i appM (xPureR f)) ρ = .nx (ρ.set i (.ow (.lst (ds ++ [d])))) := by
  have e : xM1 i appM (xPureR f) ρ = some (ρ.set i (.ow (.lst (ds ++ [d]))), .non) := by
    unfold xM1 xPureR
    rw [h2, h1]
    show ((ownL ρ[i]?).bind fun ds => (appM ds d).map _) = _
    rw [h2]
    show ((appM ds d).map _) = _
    rw [appM_ok hl]
    rfl
  unfold sX
  rw [e]
noncomputable def ev (k : Int) : List Int → Int
  | [] => 0
  | a :: l => a + k * ev k l
end LL
end
section
set_option Elab.async false
set_option linter.all false
set_option maxRecDepth 100000
set_option maxHeartbeats 999999
namespace LL
open PySem L3 L4 K24
end LL
end
section
set_option Elab.async false
set_option linter.all false
set_option maxRecDepth 100000
set_option maxHeartbeats 999999
namespace LL
open PySem L3 L4 K24
section
variable (x : List (List Int))
end
end LL
end
section
set_option Elab.async false
set_option linter.all false
set_option maxRecDepth 100000
set_option maxHeartbeats 999999
namespace LL
open PySem L3 L4 K24
section
variable (x : List (List Int))
end
section
variable {x : List (List Int)}
end
end LL
end
section
set_option Elab.async false
set_option linter.all false
set_option maxRecDepth 100000
set_option maxHeartbeats 999999
namespace LL
open PySem L3 L4 K24
noncomputable abbrev Tab := List (Nat × Int)
structure Okt (n : Nat) (A : Tab) : Prop where
  nd : (A.map (·.1)).Nodup
  lt : ∀ q ∈ A, q.1 < 2 ^ n
section
variable (x : List (List Int))
end
section
variable {x : List (List Int)}
end
end LL
end
section
set_option Elab.async false
set_option linter.all false
set_option maxRecDepth 100000
set_option maxHeartbeats 999999
namespace LL
open PySem L3 L4 K24
section
variable {x : List (List Int)}
end
end LL
end
section
set_option Elab.async false
set_option linter.all false
set_option maxRecDepth 100000
namespace K25
open PySem L3 L4
noncomputable def f_l_by_descents : FnF := runF 3 2
    (sSeq (sSet 2 (eCB lenM (aCons (eVar 0) aNil)))
    (sRet (eCB sumM (aCons (eComp 1 [0, 2, 1] (iRange (aCons (eVar 2) aNil)) (g1 0) tTrue (eBin mulM (eBin ixM (eVar 1) (eVar 0)) (eCall LL.f_l_chosen (aCons (eBin subM (eBin subM (eBin addM (eVar 3) (eVar 2)) (eC (.int 1))) (eVar 0)) (aCons (eVar 2) aNil))))) aNil))))
noncomputable def f_l_by_steps : FnF := runF 2 2
    (sRet (eCB sumM (aCons (eComp 1 [0, 1] (iRange (aCons (eCB lenM (aCons (eVar 0) aNil)) aNil)) (g1 0) tTrue (eBin mulM (eBin ixM (eVar 1) (eVar 0)) (eCall LL.f_l_chosen (aCons (eVar 2) (aCons (eVar 0) aNil))))) aNil)))
noncomputable def f_l_value : FnF := runF 4 2
    (sSeq (sSet 2 (eC (.int 0)))
    (sSeq (sFor (iRev (aCons (eVar 0) aNil)) (gN1 3)
      (sSet 2 (eBin addM (eBin mulM (eVar 2) (eVar 1)) (eVar 3))))
    (sRet (eVar 2))))
noncomputable def f_l_factorial : FnF := runF 3 1
    (sSeq (sSet 1 (eC (.int 1)))
    (sSeq (sFor (iRange (aCons (eVar 0) aNil)) (gN1 2)
      (sSet 1 (eBin mulM (eVar 1) (eBin addM (eVar 2) (eC (.int 1))))))
    (sRet (eVar 1))))
noncomputable def f_l_one_value : FnF := runF 7 5
    (sSeq (sSet 5 (eCall LL.f_count_at (aCons (eVar 0) (aCons (eVar 4) aNil))))
    (sSeq (sIf (tOr (tNot (tV (eIsi "int" (eVar 5)))) (tV (eIsi "bool" (eVar 5))))
      (sRet (eC (.bl false)))
      sEnd)
    (sSeq (sSet 6 (eC (.int 1)))
    (sSeq (sIf (tV (eBin gtM (eCB lenM (aCons (eVar 0) aNil)) (eC (.int 0))))
      (sSet 6 (eCall f_l_by_descents (aCons (eVar 1) (aCons (eVar 4) aNil))))
      sEnd)
    (sSeq (sIf (tOr (tV (eBin neM (eVar 5) (eVar 6))) (tV (eBin neM (eCall f_l_by_steps (aCons (eVar 2) (aCons (eVar 4) aNil))) (eVar 5))))
      (sRet (eC (.bl false)))
      sEnd)
    (sRet (eBin eqM (eCall f_l_value (aCons (eVar 3) (aCons (eVar 4) aNil))) (eBin mulM (eVar 5) (eCall f_l_factorial (aCons (eCB lenM (aCons (eVar 0) aNil)) aNil))))))))))
noncomputable def f_law : FnF := runF 10 1
    (sSeq (sSet 1 (eCall LL.f_l_drawn (aCons (eVar 0) (aCons (eC (.int 0)) (aCons (eC (.int 9)) (aCons (eC (.int 100003)) aNil))))))
    (sSeq (sSet 2 (eCB lenM (aCons (eVar 1) aNil)))
    (sSeq (sSet 3 (eCall LL.f_shares_by_descents (aCons (eVar 1) aNil)))
    (sSeq (sSet 4 (eCall LL.f_shares_by_steps (aCons (eVar 1) aNil)))
    (sSeq (sSet 5 (eCall LL.f_polynomial (aCons (eVar 1) aNil)))
    (sSeq (sIf (tOr (tNot (tV (eCall LL.f_l_tuple (aCons (eVar 3) (aCons (eCB max2M (aCons (eC (.int 1)) (aCons (eVar 2) aNil))) aNil))))) (tOr (tNot (tV (eCall LL.f_l_tuple (aCons (eVar 4) (aCons (eBin addM (eVar 2) (eC (.int 1))) aNil))))) (tNot (tV (eCall LL.f_l_tuple (aCons (eVar 5) (aCons (eBin addM (eVar 2) (eC (.int 1))) aNil)))))))
      (sRet (eC (.bl false)))
      sEnd)
    (sSeq (sIf (tOr (tV (eBin ltM (eCB min1M (aCons (eVar 3) aNil)) (eC (.int 0)))) (tOr (tV (eBin ltM (eCB min1M (aCons (eVar 4) aNil)) (eC (.int 0)))) (tOr (tV (eBin neM (eCB sumTM (aCons (eVar 3) aNil)) (eBin ixM (eVar 4) (eNeg (eC (.int 1)))))) (tV (eBin neM (eBin ixM (eVar 5) (eNeg (eC (.int 1)))) (eBin ixM (eVar 4) (eNeg (eC (.int 1)))))))))
      (sRet (eC (.bl false)))
      sEnd)
    (sSeq (sSet 6 (eBin modM (eBin ixM (eCall LL.f_l_draws (aCons (eCall LL.f_l_cell (aCons (eVar 0) (aCons (eC (.int 2)) aNil))) (aCons (eC (.int 1)) (aCons (eC (.int 200017)) aNil)))) (eC (.int 0))) (eC (.int 5))))
    (sSeq (sFor (iWalk (eTup (aCons (eVar 6) (aCons (eCall LL.f_l_any_k (aCons (eVar 0) (aCons (eC (.int 3)) (aCons (eC (.int 300007)) aNil)))) aNil)))) (gN1 7)
      (sIf (tNot (tV (eCall f_l_one_value (aCons (eVar 1) (aCons (eVar 3) (aCons (eVar 4) (aCons (eVar 5) (aCons (eVar 7) aNil))))))))
        (sRet (eC (.bl false)))
        sEnd))
    (sSeq (sIf (tV (eBin eqM (eVar 2) (eC (.int 0))))
      (sRet (eBin eqTM (eVar 4) (eTup (aCons (eC (.int 1)) aNil))))
      sEnd)
    (sSeq (sOwn 8 (eLst (aCons (eC (.int 0)) aNil)))
    (sSeq (sFor (iRange (aCons (eC (.int 1)) (aCons (eBin addM (eVar 2) (eC (.int 1))) aNil))) (gN1 9)
      (sX (xM1 8 appM (xPureR (eCB sumM (aCons (eComp 1 [3, 2, 9] (iRange (aCons (eVar 9) aNil)) (g1 0) tTrue (eBin mulM (eBin ixM (eVar 1) (eVar 0)) (eCall LL.f_l_chosen (aCons (eBin subM (eBin subM (eVar 2) (eC (.int 1))) (eVar 0)) (aCons (eBin subM (eBin subM (eVar 3) (eC (.int 1))) (eVar 0)) aNil))))) aNil))))))
    (sRet (eBin eqLM (eCB listM (aCons (eVar 4) aNil)) (eVar 8)))))))))))))))
end K25
end
section
set_option Elab.async false
set_option linter.all false
set_option maxRecDepth 100000
set_option maxHeartbeats 999999
namespace K25
open PySem L3 L4 K24 LL
section
variable {x : List (List Int)}
end
end K25
end
section
set_option Elab.async false
set_option linter.all false
set_option maxRecDepth 100000
set_option maxHeartbeats 999999
namespace LL
open PySem L3 L4 K24
section
variable (x : List (List Int))
noncomputable def gls : Nat → List (List Int)
  | 0 => [[]]
  | i + 1 => (gls i).flatMap fun w => (readyI x w).map fun t => w ++ [t]
end
section
variable {x : List (List Int)}
end
end LL
end
section
set_option Elab.async false
set_option linter.all false
set_option maxRecDepth 100000
set_option maxHeartbeats 999999
namespace LL
open PySem L3 L4 K24
section
variable (x : List (List Int))
end
section
variable {x : List (List Int)}
end
end LL
end
section
set_option Elab.async false
set_option linter.all false
set_option maxRecDepth 100000
set_option maxHeartbeats 999999
namespace LL
open PySem L3 L4 K24
section
variable {x : List (List Int)}
end
end LL
end
section
set_option Elab.async false
set_option linter.all false
set_option maxRecDepth 100000
set_option maxHeartbeats 999999
namespace LL
open PySem L3 L4 K24
section
variable {x y : List (List Int)}
noncomputable def Turned (x y : List (List Int)) : Prop := y.length = x.length ∧ ∀ a b : Int, 0 ≤ b → b < (x.length : Int) → (a ∈ row y ((x.length : Int) - 1 - b) ↔ (x.length : Int) - 1 - a ∈ row x b)
theorem Turned.symm (h : Turned x y) : Turned y x := by
  refine ⟨h.1.symm, fun a b h0 h1 => ?_⟩
  rw [h.1] at h1 ⊢
  have e := h.2 ((x.length : Int) - 1 - a) ((x.length : Int) - 1 - b) (by omega) (by omega)
  rw [show (x.length : Int) - 1 - ((x.length : Int) - 1 - b) = b by omega, show (x.length : Int) - 1 - ((x.length : Int) - 1 - a) = a by omega] at e
  exact e.symm
noncomputable def Upside (x z : List (List Int)) : Prop := z.length = x.length ∧ ∀ a b : Int, 0 ≤ a → a < (x.length : Int) → 0 ≤ b → b < (x.length : Int) → (a ∈ row x b ↔ b ∈ row z a)
theorem Upside.symm (h : Upside x y) : Upside y x := ⟨h.1.symm, fun a b h0 h1 h2 h3 => by rw [h.1] at h1 h3; exact (h.2 b a h2 h3 h0 h1).symm⟩
end
end LL
end
section
set_option Elab.async false
set_option linter.all false
set_option maxRecDepth 100000
set_option maxHeartbeats 999999
namespace LL
open PySem L3 L4 K24
section
variable {x : List (List Int)}
end
end LL
end
section
set_option Elab.async false
set_option linter.all false
set_option maxRecDepth 100000
set_option maxHeartbeats 999999
namespace LL
open PySem L3 L4 K24
section
variable {x y z : List (List Int)}
structure Sd (x y z : List (List Int)) : Prop where
  len : z.length = x.length + y.length
  lo : ∀ t : Int, 0 ≤ t → t < (x.length : Int) → ∀ a, a ∈ row z t ↔ a ∈ row x t
  hi : ∀ t : Int, 0 ≤ t → t < (y.length : Int) → ∀ a, a ∈ row z (t + x.length) ↔ a - x.length ∈ row y t
  rx : ∀ t : Int, 0 ≤ t → t < (x.length : Int) → ∀ a ∈ row x t, 0 ≤ a ∧ a < (x.length : Int)
  ry : ∀ t : Int, 0 ≤ t → t < (y.length : Int) → ∀ a ∈ row y t, 0 ≤ a ∧ a < (y.length : Int)
structure Cb (x y : List (List Int)) (a b c : List Int) : Prop where
  lo : ∀ t : Int, 0 ≤ t → t < (x.length : Int) → (t ∈ c ↔ t ∈ a)
  hi : ∀ t : Int, 0 ≤ t → t < (y.length : Int) → (t + x.length ∈ c ↔ t ∈ b)
end
end LL
end
section
set_option Elab.async false
set_option linter.all false
set_option maxRecDepth 100000
set_option maxHeartbeats 999999
namespace LL
open PySem L3 L4 K24
section
variable {x y z : List (List Int)}
structure Av (x y z : List (List Int)) (s t : Int) : Prop where
  len : z.length = x.length + y.length
  lo : ∀ a : Int, 0 ≤ a → a < (x.length : Int) → ∀ b, b ∈ row z (a + s) ↔ b - s ∈ row x a
  hi : ∀ a : Int, 0 ≤ a → a < (y.length : Int) → ∀ b, b ∈ row z (a + t) ↔ (s ≤ b ∧ b < s + x.length) ∨ b - t ∈ row y a
  rx : ∀ a : Int, 0 ≤ a → a < (x.length : Int) → ∀ b ∈ row x a, 0 ≤ b ∧ b < (x.length : Int)
  ry : ∀ a : Int, 0 ≤ a → a < (y.length : Int) → ∀ b ∈ row y a, 0 ≤ b ∧ b < (y.length : Int)
  st : (s = 0 ∧ t = x.length) ∨ (s = y.length ∧ t = 0)
end
end LL
end
section
set_option Elab.async false
set_option linter.all false
set_option maxRecDepth 100000
set_option maxHeartbeats 999999
namespace LL
open PySem L3 L4 K24
theorem ownE {i : Nat} {f : EF} {ρ : SEnv} {d : D} (h : f (vRd ρ) = some d) : sOwn i f ρ = .nx (ρ.set i (.ow d)) := by
  unfold sOwn
  rw [h]
end LL
end
section
set_option Elab.async false
set_option linter.all false
set_option maxRecDepth 100000
namespace LL
open PySem L3 L4
end LL
end
section
set_option Elab.async false
set_option linter.all false
set_option maxRecDepth 100000
set_option maxHeartbeats 999999
namespace LL
open PySem L3 L4 K24
section
variable {x : List (List Int)}
theorem row_some {t : Int} (h0 : 0 ≤ t) (h1 : t < (x.length : Int)) : x[t.toNat]? = some (row x t) := by
  unfold row
  rw [List.getElem?_eq_getElem (by omega)]
  rfl
end
end LL
end
section
set_option Elab.async false
set_option linter.all false
set_option maxRecDepth 100000
set_option maxHeartbeats 999999
namespace LL
open PySem L3 L4 K24
section
variable {x : List (List Int)}
end
end LL
end
section
set_option Elab.async false
set_option linter.all false
set_option maxRecDepth 100000
set_option maxHeartbeats 999999
namespace LL
open PySem L3 L4 K24
theorem short9 {x : List (List Int)} (hx : Ord.Rows x) (hn : x.length ≤ 9) : ∀ r ∈ x, r.length ≤ 9 := fun r hr => Nat.le_trans (Ord.Rows.short hx hr) hn
section
variable {x : List (List Int)}
end
end LL
end
section
set_option Elab.async false
set_option linter.all false
set_option maxRecDepth 100000
namespace LL
open PySem L3 L4
noncomputable def f_are_too_many : FnF := runF 1 1
    (sRet (eBin gtM (eVar 0) (eC (.int 9))))
noncomputable def f_has_all_below : FnF := runF 3 2
    (sSeq (sFor (iWalk (eVar 1)) (gN1 2)
      (sIf (tNot (tV (eCB allM (aCons (eComp 1 [1] (iWalk (eBin ixM (eVar 0) (eVar 2))) (g1 0) tTrue (eBin (inM false) (eVar 0) (eVar 1))) aNil))))
        (sRet (eC (.bl false)))
        sEnd))
    (sRet (eC (.bl true))))
noncomputable def f_is_row : FnF := runF 3 2
    (sSeq (sSet 2 (eBin ixM (eVar 0) (eVar 1)))
    (sRet (eAnd (eCall LL.f_is_rising (aCons (eVar 2) (aCons (eCB lenM (aCons (eVar 0) aNil)) aNil))) (eAnd (eBin (inM true) (eVar 1) (eVar 2)) (eCall LL.f_has_all_below (aCons (eVar 0) (aCons (eVar 2) aNil)))))))
noncomputable def f_is_order : FnF := runF 1 1
    (sSeq (sIf (tV (eCall LL.f_are_too_many (aCons (eCB lenM (aCons (eVar 0) aNil)) aNil)))
      (sRet (eC (.bl false)))
      sEnd)
    (sRet (eCB allM (aCons (eComp 1 [0] (iRange (aCons (eCB lenM (aCons (eVar 0) aNil)) aNil)) (g1 0) tTrue (eCall LL.f_is_row (aCons (eVar 1) (aCons (eVar 0) aNil)))) aNil))))
noncomputable def f_l_loose : FnF := runF 4 1
    (sSeq (sOwn 1 (eLst aNil))
    (sSeq (sFor (iRange (aCons (eCB lenM (aCons (eVar 0) aNil)) aNil)) (gN1 2)
      (sFor (iRange (aCons (eBin addM (eVar 2) (eC (.int 1))) (aCons (eCB lenM (aCons (eVar 0) aNil)) aNil))) (gN1 3)
        (sIf (tAnd (tV (eBin (inM true) (eVar 2) (eBin ixM (eVar 0) (eVar 3)))) (tV (eBin (inM true) (eVar 3) (eBin ixM (eVar 0) (eVar 2)))))
          (sX (xM1 1 appM (xPureR (eTup (aCons (eVar 2) (aCons (eVar 3) aNil))))))
          sEnd)))
    (sRet (eVar 1))))
end LL
end
section
set_option Elab.async false
set_option linter.all false
set_option maxRecDepth 100000
set_option maxHeartbeats 999999
namespace LL
open PySem L3 L4 K24
end LL
end
section
set_option Elab.async false
set_option linter.all false
set_option maxRecDepth 100000
set_option maxHeartbeats 999999
namespace LL
open PySem L3 L4 K24
noncomputable abbrev PR := List (List Int) × List Int
noncomputable def hasO (R : List PR) (y : List (List Int)) : Bool := R.any fun r => decide (r.1 = y)
structure RowOk (n : Nat) (R : List PR) (i : Nat) (r : PR) : Prop where
  rows : Ord.Rows r.1
  len : r.1.length = n
  why : (loose r.1 = [] ∧ r.2 = []) ∨ ∃ (a b : Int) (p q : Nat) (u v : PR), loose r.1 ≠ [] ∧ r.2 = [a, b, (p : Int), (q : Int)] ∧ (0 ≤ a ∧ a < (n : Int)) ∧ (0 ≤ b ∧ b < (n : Int)) ∧ looseB r.1 a b = true ∧ p < i ∧ q < i ∧ R[p]? = some u ∧ u.1 = put r.1 a b ∧ R[q]? = some v ∧ v.1 = put r.1 b a
noncomputable def GoodR (n : Nat) (R : List PR) : Prop := ∀ (i : Nat) (r : PR), R[i]? = some r → RowOk n R i r
noncomputable def gl (x : List (List Int)) : Nat := (gls x x.length).length
end LL
end
section
set_option Elab.async false
set_option linter.all false
set_option maxRecDepth 100000
set_option maxHeartbeats 999999
namespace LL
open PySem L3 L4 K24
noncomputable abbrev bPaper : L4.SF := (sSeq (sSetX 5 (xPure (eBin ixM (eVar 4) (eNeg (eC (.int 1))))))
      (sSeq (sSet 6 (eCall LL.f_l_loose (aCons (eVar 5) aNil)))
      (sIf (tV (eBin (inXM false) (eVar 5) (eVar 3)))
        (sX (xPop0 4))
        (sIf (tV (eBin eqM (eCB lenM (aCons (eVar 6) aNil)) (eC (.int 0))))
          (sSeq (sPutX 3 (xPure (eCB lenM (aCons (eVar 2) aNil))) (eVar 5))
          (sX (xM1 2 appM (xPureR (eTup (aCons (eVar 5) (aCons (eTup aNil) aNil)))))))
          (sSeq (sSet 7 (eBin ixM (eVar 1) (eBin modM (eCB sumM (aCons (eComp 1 [] (iWalk (eVar 5)) (g1 0) tTrue (eCB lenM (aCons (eVar 0) aNil))) aNil)) (eCB lenM (aCons (eVar 1) aNil)))))
          (sSeq (sAsg (xPureR (eBin ixM (eVar 6) (eBin modM (eVar 7) (eCB lenM (aCons (eVar 6) aNil))))) (gN2 8 9))
          (sSeq (sIf (tV (eBin eqM (eBin modM (eBin divM (eVar 7) (eC (.int 7))) (eC (.int 2))) (eC (.int 1))))
            (sPar 8 9 (aCons (eVar 9) (aCons (eVar 8) aNil)))
            sEnd)
          (sSeq (sSet 10 (eLst (aCons (eCall LL.f_l_put (aCons (eVar 5) (aCons (eVar 8) (aCons (eVar 9) aNil)))) (aCons (eCall LL.f_l_put (aCons (eVar 5) (aCons (eVar 9) (aCons (eVar 8) aNil)))) aNil))))
          (sSeq (sSetF 11 (eComp 1 [3] (iWalk (eVar 10)) (g1 0) (tV (eBin (inXM true) (eVar 0) (eVar 1))) (eVar 0)))
          (sIf (tV (eBin gtM (eCB lenM (aCons (eVar 11) aNil)) (eC (.int 0))))
            (sX (xM1 4 appM (xPureR (eBin ixM (eVar 11) (eBin modM (eBin divM (eVar 7) (eC (.int 16))) (eCB lenM (aCons (eVar 11) aNil)))))))
            (sSeq (sPutX 3 (xPure (eCB lenM (aCons (eVar 2) aNil))) (eVar 5))
            (sX (xM1 2 appM (xPure (eTup (aCons (eVar 5) (aCons (eTup (aCons (eVar 8) (aCons (eVar 9) (aCons (eBin ixXM (eVar 3) (eBin ixM (eVar 10) (eC (.int 0)))) (aCons (eBin ixXM (eVar 3) (eBin ixM (eVar 10) (eC (.int 1)))) aNil))))) aNil)))))))))))))))))
end LL
end
section
set_option Elab.async false
set_option linter.all false
set_option maxRecDepth 100000
set_option maxHeartbeats 999999
namespace LL
open PySem L3 L4 K24
noncomputable abbrev tPaper : TF := tV (eBin gtM (eCB lenM (aCons (eVar 4) aNil)) (eC (.int 0)))
noncomputable def Steps (m : Nat) (ρ ρ' : SEnv) : Prop := ∀ f : Nat, whileF tPaper bPaper (f + m) ρ = whileF tPaper bPaper f ρ'
theorem Steps.trans {m k : Nat} {a b c : SEnv} (h1 : Steps m a b) (h2 : Steps k b c) : Steps (m + k) a c := fun f => by
  rw [show f + (m + k) = (f + k) + m by omega, h1, h2]
structure Ran (n : Nat) (dr : List Int) (R : List PR) (y : List (List Int)) (m : Nat) (R' : List PR) : Prop where
  steps : m + 4 ≤ 6 * gl y
  more : ∃ S, R' = R ++ S ∧ ∀ r ∈ S, gl r.1 ≤ gl y
  few : R'.length + 1 ≤ R.length + 2 * gl y
  good : GoodR n R'
  has : hasO R' y = true
  last : hasO R y = false → ∃ S w, R' = S ++ [(y, w)]
end LL
end
section
set_option Elab.async false
set_option linter.all false
set_option maxRecDepth 100000
set_option maxHeartbeats 999999
namespace LL
open PySem L3 L4 K24
theorem andE {a b : EF} {ρ : DEnv} {p q : Bool} (ha : a ρ = some (.bl p)) (hb : p = true → b ρ = some (.bl q)) (h : p = false → q = false) : eAnd a b ρ = some (.bl q) := by
  unfold eAnd
  rw [ha]
  show (if p = true then b ρ else some (.bl false)) = _
  cases p with
  | true => exact hb rfl
  | false => rw [h rfl]; rfl
section
variable {x : List (List Int)}
end
end LL
end
section
set_option Elab.async false
set_option linter.all false
set_option maxRecDepth 100000
namespace LL
open PySem L3 L4
end LL
end
section
set_option Elab.async false
set_option linter.all false
set_option maxRecDepth 100000
namespace K05
open PySem L3 L4
noncomputable def f_part_of : FnF := runF 2 2
    (sSeq (sIf (tNot (tV (eCall LL.f_is_rising (aCons (eVar 1) (aCons (eCB lenM (aCons (eVar 0) aNil)) aNil)))))
      (sRaiseA (aCons (eC (.str "not some things of the order, rising, each once")) aNil) "NoThing")
      sEnd)
    (sRet (eCB tupleM (aCons (eComp 1 [1, 0] (iWalk (eVar 1)) (g1 0) tTrue (eCall LL.f_renumbered (aCons (eBin ixM (eVar 2) (eVar 0)) (aCons (eVar 1) aNil)))) aNil))))
noncomputable def f_l_asked : FnF := runF 3 2
    (sTry (sThr (rNext (eC (.str "told")) (rCall f_part_of (aCons (eVar 0) (aCons (eVar 1) aNil)))) (sRet (eTup (aCons (eC (.str "told")) (aCons (eCall f_part_of (aCons (eVar 0) (aCons (eVar 1) aNil))) aNil))))) (fun c => if c = "NoThing" then some (.tup [.str "refused", .bl true, .bl false, .bl false, .bl false, .bl false, .bl false, .bl false, .bl false, .bl false, .bl false, .bl false, .bl false, .bl false, .bl true]) else none))
noncomputable def f_l_refused : FnF := runF 2 1
    (sSeq (sSet 1 (eC (.str "NoThing Looped NoOrder NoNumber TooGreat NoGoing NoRow NoFilling NotLoose NotForest")))
    (sSeq (sSet 1 (eBin addM (eVar 1) (eC (.str " NoShape NoName NoLine"))))
    (sRet (eBin addM (eBin addM (eTup (aCons (eC (.str "refused")) aNil)) (eCB tupleM (aCons (eComp 1 [0] (iWalk (eBin splitM (eVar 1) (eC (.str " ")))) (g1 0) tTrue (eBin eqM (eVar 0) (eVar 1))) aNil))) (eTup (aCons (eC (.bl true)) aNil))))))
noncomputable def f_l_due : FnF := runF 5 2
    (sSeq (sSet 2 (eCB lenM (aCons (eVar 0) aNil)))
    (sSeq (sIf (tV (eBin neLM (eCB listM (aCons (eVar 1) aNil)) (eComp 1 [1] (iRange (aCons (eVar 2) aNil)) (g1 0) (tV (eBin (inM false) (eVar 0) (eVar 1))) (eVar 0))))
      (sRet (eCall f_l_refused (aCons (eC (.str "NoThing")) aNil)))
      sEnd)
    (sSeq (sOwn 3 (eLst aNil))
    (sSeq (sFor (iWalk (eVar 1)) (gN1 4)
      (sX (xM1 3 appM (xPureR (eCB tupleM (aCons (eComp 1 [1, 0, 4] (iRange (aCons (eCB lenM (aCons (eVar 1) aNil)) aNil)) (g1 0) (tV (eBin (inM false) (eBin ixM (eVar 1) (eVar 0)) (eBin ixM (eVar 2) (eVar 3)))) (eVar 0)) aNil))))))
    (sRet (eTup (aCons (eC (.str "told")) (aCons (eCB tupleM (aCons (eVar 3) aNil)) aNil))))))))
noncomputable def f_l_things : FnF := runF 5 2
    (sSeq (sSet 2 (eCB lenM (aCons (eVar 0) aNil)))
    (sSeq (sOwn 3 (eComp 1 [1] (iRange (aCons (eVar 2) aNil)) (g1 0) (tV (eBin ltM (eBin modM (eBin ixM (eVar 1) (eVar 0)) (eC (.int 8))) (eBin ixM (eLst (aCons (eC (.int 4)) (aCons (eC (.int 6)) (aCons (eC (.int 7)) (aCons (eC (.int 8)) aNil))))) (eBin modM (eBin ixM (eVar 1) (eC (.int 9))) (eC (.int 4)))))) (eVar 0)))
    (sSeq (sIf (tV (eBin eqM (eBin modM (eBin ixM (eVar 1) (eC (.int 10))) (eC (.int 8))) (eC (.int 1))))
      (sOwnI 3 (eRevS (eVar 3)))
      sEnd)
    (sSeq (sIf (tAnd (tV (eBin eqM (eBin modM (eBin ixM (eVar 1) (eC (.int 10))) (eC (.int 8))) (eC (.int 3)))) (tV (eBin gtM (eCB lenM (aCons (eVar 3) aNil)) (eC (.int 0)))))
      (sSeq (sSetX 4 (xPure (eBin modM (eBin ixM (eVar 1) (eC (.int 11))) (eCB lenM (aCons (eVar 3) aNil)))))
      (sX (xIns 3 (eBin ixM (eLst (aCons (eVar 4) (aCons (eBin modM (eBin ixM (eVar 1) (eC (.int 12))) (eBin addM (eCB lenM (aCons (eVar 3) aNil)) (eC (.int 1)))) aNil))) (eBin modM (eBin ixM (eVar 1) (eC (.int 13))) (eC (.int 2)))) (eBin ixM (eVar 3) (eVar 4)))))
      sEnd)
    (sSeq (sIf (tV (eBin eqM (eBin modM (eBin ixM (eVar 1) (eC (.int 10))) (eC (.int 8))) (eC (.int 5))))
      (sX (xIns 3 (eBin modM (eBin ixM (eVar 1) (eC (.int 11))) (eBin addM (eCB lenM (aCons (eVar 3) aNil)) (eC (.int 1)))) (eBin ixM (eLst (aCons (eNeg (eC (.int 1))) (aCons (eVar 2) (aCons (eBin addM (eVar 2) (eC (.int 3))) (aCons (eBin subM (eBin powGM (eBin powM (eC (.int 10)) (eC (.int 60))) (eC (.int 10))) (eC (.int 1))) aNil))))) (eBin modM (eBin ixM (eVar 1) (eC (.int 12))) (eC (.int 4))))))
      sEnd)
    (sSeq (sIf (tAnd (tV (eBin eqM (eBin modM (eBin ixM (eVar 1) (eC (.int 10))) (eC (.int 8))) (eC (.int 7)))) (tV (eBin gtM (eCB lenM (aCons (eVar 3) aNil)) (eC (.int 1)))))
      (sSeq (sSetX 4 (xPure (eBin modM (eBin ixM (eVar 1) (eC (.int 11))) (eBin subM (eCB lenM (aCons (eVar 3) aNil)) (eC (.int 1))))))
      (sAsg (xPure (eTup (aCons (eBin ixM (eVar 3) (eBin addM (eVar 4) (eC (.int 1)))) (aCons (eBin ixM (eVar 3) (eVar 4)) aNil)))) (gTwo (gPut 3 (eVar 4)) (gPut 3 (eBin addM (eVar 4) (eC (.int 1)))))))
      sEnd)
    (sRet (eCB tupleM (aCons (eVar 3) aNil)))))))))
noncomputable def f_law : FnF := runF 7 1
    (sSeq (sSet 1 (eCall LL.f_l_drawn (aCons (eVar 0) (aCons (eC (.int 0)) (aCons (eC (.int 9)) (aCons (eC (.int 100003)) aNil))))))
    (sSeq (sSet 2 (eCall LL.f_l_draws (aCons (eCall LL.f_l_cell (aCons (eVar 0) (aCons (eC (.int 2)) aNil))) (aCons (eC (.int 14)) (aCons (eC (.int 300007)) aNil)))))
    (sSeq (sSet 3 (eCall f_l_things (aCons (eVar 1) (aCons (eVar 2) aNil))))
    (sSeq (sSet 4 (eCall f_l_due (aCons (eVar 1) (aCons (eVar 3) aNil))))
    (sSeq (sSet 5 (eCall f_l_asked (aCons (eVar 1) (aCons (eVar 3) aNil))))
    (sSeq (sIf (tNot (tV (eCall (LL.f_l_same 6) (aCons (eVar 5) (aCons (eVar 4) aNil)))))
      (sRet (eC (.bl false)))
      sEnd)
    (sSeq (sIf (tV (eBin eqM (eBin ixM (eVar 4) (eC (.int 0))) (eC (.str "told"))))
      (sSeq (sSet 6 (eBin modM (eBin ixM (eVar 2) (eC (.int 13))) (eBin addM (eCB lenM (aCons (eVar 3) aNil)) (eC (.int 1)))))
      (sIf (tNot (tV (eCall (LL.f_l_same 6) (aCons (eCall f_l_asked (aCons (eBin ixM (eVar 5) (eC (.int 1))) (aCons (eTupR (aCons (eVar 6) aNil)) aNil))) (aCons (eCall f_l_due (aCons (eVar 1) (aCons (eSl (eVar 3) oNo (oE (eVar 6))) aNil))) aNil)))))
        (sRet (eC (.bl false)))
        sEnd))
      sEnd)
    (sRet (eCall (LL.f_l_same 6) (aCons (eCall f_l_asked (aCons (eVar 1) (aCons (eVar 3) aNil))) (aCons (eVar 4) aNil)))))))))))
end K05
end
section
set_option Elab.async false
set_option linter.all false
set_option maxRecDepth 100000
set_option maxHeartbeats 999999
namespace K05
open PySem L3 L4 LL
theorem up_ext {l m : List Int} (hl : l.Pairwise (· < ·)) (hm : m.Pairwise (· < ·)) (h : ∀ a, a ∈ l ↔ a ∈ m) : l = m :=
  sorted_eq ((List.perm_ext_iff_of_nodup (hl.imp fun q => by omega) (hm.imp fun q => by omega)).mpr h) (hl.imp fun q => by omega) (hm.imp fun q => by omega)
theorem rng_up (lo : Int) : ∀ n : Nat, (rngP lo n).Pairwise (· < ·)
  | 0 => List.Pairwise.nil
  | n + 1 => by
    rw [rngP_succ]
    refine List.pairwise_append.mpr ⟨rng_up lo n, List.pairwise_singleton _ _, fun a ha b hb => ?_⟩
    have := rngP_mem.mp ha
    rw [List.mem_singleton.mp hb]
    omega
theorem at0_nat {l : List Int} {j : Nat} {a : Int} (h : l[j]? = some a) : at0 l (j : Int) = a := by
  unfold at0
  rw [Int.toNat_natCast, h]
  rfl
noncomputable def okR (n : Int) (xs : List Int) (p : Int × Nat) : Bool := (decide (0 ≤ p.1) && decide (p.1 < n)) && !(decide (0 < (p.2 : Int)) && decide (p.1 ≤ at0 xs ((p.2 : Int) - 1)))
noncomputable def ris (n : Int) (xs : List Int) : Bool := xs.zipIdx.all (okR n xs)
theorem is_rising_all {xs : List Int} {n : Int} : f_is_rising [tupI xs, .int n] = .ok (.bl (ris n xs)) := by
  unfold f_is_rising
  have L := loop_allA (g := gN2 2 3) (b := sSeq (sIf (tNot (tV (eCall LL.f_is_thing (aCons (eVar 3) (aCons (eVar 1) aNil)))))
        (sRet (eC (.bl false)))
        sEnd)
      (sIf (tAnd (tV (eBin gtM (eVar 2) (eC (.int 0)))) (tV (eBin geM (eBin ixM (eVar 0) (eBin subM (eVar 2) (eC (.int 1)))) (eVar 3))))
        (sRet (eC (.bl false)))
        sEnd)) (z := .bl false) (fun ρ => ∃ v2 v3, ρ = [Sv.ro (tupI xs), Sv.ro (.int n), v2, v3]) (fun p : Int × Nat => D.tup [.int (p.2 : Int), .int p.1]) (okR n xs) xs.zipIdx
      [Sv.ro (tupI xs), Sv.ro (.int n), Sv.no, Sv.no] ⟨_, _, rfl⟩ (by
    rintro ⟨x, j⟩ hp _ ⟨v2, v3, rfl⟩
    have hx : xs[j]? = some x := List.mem_zipIdx_iff_getElem?.mp hp
    have hj := (List.getElem?_eq_some_iff.mp hx).1
    refine ⟨[Sv.ro (tupI xs), Sv.ro (.int n), Sv.ro (.int j), Sv.ro (.int x)], rfl, ?_⟩
    have c1 : tNot (tV (eCall LL.f_is_thing (aCons (eVar 3) (aCons (eVar 1) aNil)))) (vAll [Sv.ro (tupI xs), Sv.ro (.int n), Sv.ro (.int j), Sv.ro (.int x)]) = some (!(decide (0 ≤ x) && decide (x < n))) := tnE (tvE (call2E (x := .int x) (y := .int n) rfl rfl (is_thing_ok x n)) rfl) rfl
    have c2 : tAnd (tV (eBin gtM (eVar 2) (eC (.int 0)))) (tV (eBin geM (eBin ixM (eVar 0) (eBin subM (eVar 2) (eC (.int 1)))) (eVar 3))) (vAll [Sv.ro (tupI xs), Sv.ro (.int n), Sv.ro (.int j), Sv.ro (.int x)]) = some (decide (0 < (j : Int)) && decide (x ≤ at0 xs ((j : Int) - 1))) := by
      refine tandE (b := decide (0 < (j : Int))) (tvE (binE (x := .int j) (y := .int 0) rfl rfl gtM_int) rfl) (fun h => ?_) (fun h => by rw [h]; rfl)
      have h0 : 0 < (j : Int) := by simpa using h
      rw [h, Bool.true_and]
      exact tvE (binE (binE (x := tupI xs) (y := .int ((j : Int) - 1)) rfl (binE (x := .int j) (y := .int 1) rfl rfl subM_int) (at_tup (by omega) (by omega))) rfl geM_int) rfl
    constructor
    · intro h
      unfold okR at h
      rw [Bool.and_eq_true, Bool.not_eq_true'] at h
      exact ⟨_, seqE _ (ifF (by rw [c1, h.1]; rfl) rfl) (ifF (by rw [c2]; exact congrArg some h.2) rfl), _, _, rfl⟩
    · intro h
      unfold okR at h
      cases h1 : (decide (0 ≤ x) && decide (x < n)) with
      | false => exact seqR (ifT (by rw [c1, h1]; rfl) (retE rfl))
      | true =>
        simp only [h1, Bool.true_and, Bool.not_eq_false'] at h
        exact seqE _ (ifF (by rw [c1, h1]; rfl) rfl) (ifT (by rw [c2]; exact congrArg some h) (retE rfl)))
  have it : iEnum (aCons (eVar 0) aNil) (vRd [Sv.ro (tupI xs), Sv.ro (.int n), Sv.no, Sv.no]) = some (xs.zipIdx.map fun p : Int × Nat => D.tup [.int (p.2 : Int), .int p.1]) := by
    show some ((xs.map D.int).zipIdx.map fun p => D.tup [.int (p.2 : Int), p.1]) = _
    rw [zipIdx_map, List.map_map]
    rfl
  refine runE rfl ?_
  cases h : ris n xs with
  | true =>
    obtain ⟨ρ', e, v2, v3, rfl⟩ := L.1 h
    exact seqE _ (forE _ it e) (retE rfl)
  | false => exact seqR (forE _ it (L.2 h))
theorem ris_iff {n : Int} {xs : List Int} : ris n xs = true ↔ xs.Pairwise (· < ·) ∧ ∀ x ∈ xs, 0 ≤ x ∧ x < n := by
  unfold ris
  rw [List.all_eq_true]
  have mz : ∀ (x : Int) (j : Nat), (x, j) ∈ xs.zipIdx ↔ xs[j]? = some x := fun x j => List.mem_zipIdx_iff_getElem?
  constructor
  · intro h
    have nx : ∀ (j : Nat) (hj : j + 1 < xs.length), xs[j] < xs[j + 1] := fun j hj => by
      have := h (xs[j + 1], j + 1) ((mz _ _).mpr (List.getElem?_eq_getElem hj))
      unfold okR at this
      have e : at0 xs (((j + 1 : Nat) : Int) - 1) = xs[j] := by
        rw [show ((j + 1 : Nat) : Int) - 1 = (j : Int) by omega]
        exact at0_nat (List.getElem?_eq_getElem (by omega))
      simp only [e, Bool.and_eq_true, Bool.not_eq_true', Bool.and_eq_false_iff, decide_eq_false_iff_not] at this
      rcases this.2 with z | z
      · omega
      · omega
    have far : ∀ (d i : Nat) (hd : i + d + 1 < xs.length), xs[i] < xs[i + d + 1] := by
      intro d
      induction d with
      | zero => intro i hd; exact nx i hd
      | succ d ih =>
        intro i hd
        have a := ih i (by omega)
        have b := nx (i + d + 1) (by omega)
        exact Int.lt_trans a b
    refine ⟨List.pairwise_iff_getElem.mpr fun i j hi hj hij => ?_, fun x hx => ?_⟩
    · have := far (j - i - 1) i (by omega)
      have e : i + (j - i - 1) + 1 = j := by omega
      simpa only [e] using this
    · obtain ⟨j, hj, rfl⟩ := List.getElem_of_mem hx
      have := h (xs[j], j) ((mz _ _).mpr (List.getElem?_eq_getElem hj))
      unfold okR at this
      simp only [Bool.and_eq_true, decide_eq_true_eq] at this
      exact this.1
  · rintro ⟨hu, hr⟩ ⟨x, j⟩ hp
    have hx := (mz _ _).mp hp
    obtain ⟨hj, rfl⟩ := List.getElem?_eq_some_iff.mp hx
    have r := hr xs[j] (List.getElem_mem hj)
    unfold okR
    simp only [r.1, r.2, decide_true, Bool.true_and, Bool.not_eq_true', Bool.and_eq_false_iff, decide_eq_false_iff_not]
    by_cases h0 : j = 0
    · left; omega
    · right
      have e : at0 xs ((j : Int) - 1) = xs[j - 1]'(by omega) := by
        rw [show (j : Int) - 1 = ((j - 1 : Nat) : Int) by omega]
        exact at0_nat (List.getElem?_eq_getElem (by omega))
      rw [e]
      have := List.pairwise_iff_getElem.mp hu (j - 1) j (by omega) hj (by omega)
      omega
noncomputable def fil (n : Nat) (th : List Int) : List Int := (rngP 0 n).filter fun a => th.contains a
theorem ris_fil {n : Nat} {th : List Int} : ris (n : Int) th = decide (th = fil n th) := by
  rw [Bool.eq_iff_iff, decide_eq_true_eq, ris_iff]
  constructor
  · rintro ⟨hu, hr⟩
    refine up_ext hu ((rng_up 0 n).filter _) fun a => ?_
    unfold fil
    rw [List.mem_filter, rngP_mem]
    simp only [List.contains_iff_mem]
    constructor
    · intro h
      have := hr a h
      exact ⟨by omega, h⟩
    · exact fun h => h.2
  · intro h
    rw [h]
    refine ⟨(rng_up 0 n).filter _, fun a ha => ?_⟩
    have := rngP_mem.mp (List.mem_filter.mp ha).1
    omega
theorem ne_ints {l m : List Int} : neLM (lstI l) (lstI m) = some (.bl (!decide (l = m))) := by
  unfold neLM lstI eqLB
  dsimp only
  rw [intsOf_map, intsOf_map]
  rfl
end K05
end
section
set_option Elab.async false
set_option linter.all false
set_option maxRecDepth 100000
namespace K01
open PySem L3 L4
noncomputable def f_l_free : FnF := runF 4 1
    (sSeq (sOwn 1 (eLst aNil))
    (sSeq (sFor (iRange (aCons (eBin modM (eBin ixM (eVar 0) (eC (.int 21))) (eC (.int 6))) aNil)) (gN1 2)
      (sSeq (sSet 3 (eSl (eVar 0) (oE (eBin addM (eBin mulM (eC (.int 3)) (eVar 2)) (eC (.int 1)))) (oE (eBin addM (eBin addM (eBin mulM (eC (.int 3)) (eVar 2)) (eC (.int 1))) (eBin modM (eBin ixM (eVar 0) (eBin addM (eC (.int 16)) (eVar 2))) (eC (.int 4)))))))
      (sX (xM1 1 appM (xPureR (eCB tupleM (aCons (eComp 1 [] (iWalk (eVar 3)) (g1 0) tTrue (eBin subM (eBin modM (eVar 0) (eC (.int 7))) (eC (.int 1)))) aNil)))))))
    (sRet (eCB tupleM (aCons (eVar 1) aNil)))))
noncomputable def f_l_changed : FnF := runF 8 2
    (sSeq (sSet 2 (eCB lenM (aCons (eVar 0) aNil)))
    (sSeq (sRows 3 1 [] (iWalk (eVar 0)) (g1 0) (eCB listM (aCons (eVar 0) aNil)))
    (sSeq (sIf (tV (eBin eqM (eBin modM (eBin ixM (eVar 1) (eC (.int 0))) (eC (.int 12))) (eC (.int 0))))
      (sCast 3 (sFrz 3 (sOwn 3 (eSlL (eVar 3) oNo (oE (eBin subM (eVar 2) (eC (.int 1))))))))
      (sIf (tOr (tV (eBin eqM (eBin modM (eBin ixM (eVar 1) (eC (.int 0))) (eC (.int 12))) (eC (.int 1)))) (tV (eBin eqM (eVar 2) (eC (.int 0)))))
        (sCast 3 (sX (xM1 3 appM (xPureR (eBin ixM (eLst (aCons (eLst aNil) (aCons (eListR (aCons (eVar 2) aNil)) aNil))) (eBin modM (eBin ixM (eVar 1) (eC (.int 1))) (eC (.int 2))))))))
        (sSeq (sSet 4 (eBin modM (eBin ixM (eVar 1) (eC (.int 1))) (eVar 2)))
        (sSeq (sSet 5 (eBin modM (eBin ixM (eVar 1) (eC (.int 2))) (eVar 2)))
        (sSeq (sSet 6 (eLst (aCons (eNeg (eC (.int 1))) (aCons (eVar 2) (aCons (eBin subM (eBin powGM (eBin powM (eC (.int 10)) (eC (.int 60))) (eC (.int 10))) (eC (.int 1))) (aCons (eVar 4) (aCons (eVar 5) (aCons (eBin modM (eBin ixM (eVar 1) (eC (.int 3))) (eVar 2)) aNil))))))))
        (sIf (tV (eBin eqM (eBin modM (eBin ixM (eVar 1) (eC (.int 0))) (eC (.int 12))) (eC (.int 2))))
          (sCast 3 (sPut 3 (xPureL (eRevS (eBin ixM (eVar 3) (eVar 4)))) (eVar 4)))
          (sIf (tV (eBin eqM (eBin modM (eBin ixM (eVar 1) (eC (.int 0))) (eC (.int 12))) (eC (.int 3))))
            (sCast 3 (sPut 3 (xPureL (eBin catM (eBin ixM (eVar 3) (eVar 4)) (eSl (eBin ixM (eVar 3) (eVar 4)) (oE (eBin modM (eBin ixM (eVar 1) (eC (.int 3))) (eC (.int 3)))) oNo))) (eVar 4)))
            (sIf (tV (eBin eqM (eBin modM (eBin ixM (eVar 1) (eC (.int 0))) (eC (.int 12))) (eC (.int 4))))
              (sSeq (sCast 3 (sSetX 7 (xPure (eBin modM (eBin ixM (eVar 1) (eC (.int 3))) (eBin addM (eCB lenM (aCons (eBin ixM (eVar 3) (eVar 4)) aNil)) (eC (.int 1)))))))
              (sCast 3 (sPut 3 (xPureL (eBin catM (eSl (eBin ixM (eVar 3) (eVar 4)) oNo (oE (eVar 7))) (eSl (eBin ixM (eVar 3) (eVar 4)) (oE (eBin addM (eVar 7) (eC (.int 1)))) oNo))) (eVar 4))))
              (sIf (tV (eBin eqM (eBin modM (eBin ixM (eVar 1) (eC (.int 0))) (eC (.int 12))) (eC (.int 5))))
                (sSeq (sCast 3 (sPut 3 (xPureL (eCB sortedM (aCons (eBin addM (eBin ixM (eVar 3) (eVar 4)) (eLst (aCons (eVar 5) aNil))) aNil))) (eVar 4)))
                (sCast 3 (sPut 3 (xPureL (eCB sortedM (aCons (eBin addM (eBin ixM (eVar 3) (eVar 5)) (eLst (aCons (eVar 4) aNil))) aNil))) (eVar 5))))
                (sIf (tV (eBin eqM (eBin modM (eBin ixM (eVar 1) (eC (.int 4))) (eC (.int 3))) (eC (.int 1))))
                  (sRowIns 8 3 (eVar 4) (eBin modM (eBin divM (eBin ixM (eVar 1) (eC (.int 4))) (eC (.int 3))) (eBin addM (eCB lenM (aCons (eBin ixM (eVar 3) (eVar 4)) aNil)) (eC (.int 1)))) (eBin ixM (eVar 6) (eBin subM (eBin modM (eBin ixM (eVar 1) (eC (.int 0))) (eC (.int 12))) (eC (.int 6)))))
                  (sCast 3 (sPut 3 (xPureL (eCB sortedM (aCons (eBin addM (eBin ixM (eVar 3) (eVar 4)) (eLst (aCons (eBin ixM (eVar 6) (eBin subM (eBin modM (eBin ixM (eVar 1) (eC (.int 0))) (eC (.int 12))) (eC (.int 6)))) aNil))) aNil))) (eVar 4)))))))))))))
    (sCast 3 (sRet (eCB tupleM (aCons (eComp 1 [] (iWalk (eVar 3)) (g1 0) tTrue (eCB tupleM (aCons (eVar 0) aNil))) aNil)))))))
noncomputable def f_l_long : FnF := runF 4 2
    (sSeq (sSet 2 (eBin addM (eC (.int 11)) (eBin modM (eBin addM (eBin mulM (eC (.int 64)) (eBin ixM (eVar 1) (eC (.int 6)))) (eBin ixM (eVar 1) (eC (.int 7)))) (eC (.int 290)))))
    (sSeq (sIf (tOr (tV (eBin eqM (eBin modM (eBin ixM (eVar 1) (eC (.int 8))) (eC (.int 2))) (eC (.int 1)))) (tV (eBin eqM (eCB lenM (aCons (eVar 0) aNil)) (eC (.int 0)))))
      (sRet (eBin addM (eVar 0) (eBin repTM (eTup (aCons (eTup aNil) aNil)) (eBin subM (eVar 2) (eCB lenM (aCons (eVar 0) aNil))))))
      sEnd)
    (sSeq (sSet 3 (eBin modM (eBin ixM (eVar 1) (eC (.int 9))) (eCB lenM (aCons (eVar 0) aNil))))
    (sRet (eBin addM (eBin addM (eSl (eVar 0) oNo (oE (eVar 3))) (eTup (aCons (eTupR (aCons (eVar 2) aNil)) aNil))) (eSl (eVar 0) (oE (eBin addM (eVar 3) (eC (.int 1)))) oNo))))))
noncomputable def f_l_rows : FnF := runF 5 3
    (sSeq (sSet 3 (eCall LL.f_l_draws (aCons (eCall LL.f_l_cell (aCons (eVar 0) (aCons (eVar 1) aNil))) (aCons (eC (.int 22)) (aCons (eVar 2) aNil)))))
    (sSeq (sIf (tV (eBin eqM (eBin modM (eBin ixM (eVar 3) (eC (.int 0))) (eC (.int 8))) (eC (.int 1))))
      (sRet (eCall f_l_free (aCons (eVar 3) aNil)))
      sEnd)
    (sSeq (sSet 4 (eCall LL.f_l_drawn (aCons (eVar 0) (aCons (eBin addM (eVar 1) (eC (.int 1))) (aCons (eC (.int 9)) (aCons (eBin addM (eVar 2) (eC (.int 20011))) aNil))))))
    (sSeq (sIf (tV (eBin eqM (eBin modM (eBin ixM (eVar 3) (eC (.int 0))) (eC (.int 4))) (eC (.int 0))))
      (sRet (eVar 4))
      sEnd)
    (sSeq (sIf (tV (eBin eqM (eBin modM (eBin ixM (eVar 3) (eC (.int 0))) (eC (.int 16))) (eC (.int 3))))
      (sRet (eCall f_l_long (aCons (eVar 4) (aCons (eVar 3) aNil))))
      sEnd)
    (sRet (eCall f_l_changed (aCons (eVar 4) (aCons (eSl (eVar 3) (oE (eC (.int 1))) (oE (eC (.int 6)))) aNil)))))))))
noncomputable def f_l_is : FnF := runF 5 1
    (sSeq (sSet 1 (eCB lenM (aCons (eVar 0) aNil)))
    (sSeq (sIf (tV (eBin gtM (eVar 1) (eC (.int 9))))
      (sRet (eC (.bl false)))
      sEnd)
    (sSeq (sFor (iRange (aCons (eVar 1) aNil)) (gN1 2)
      (sIf (tV (eBin neLM (eCB listM (aCons (eBin ixM (eVar 0) (eVar 2)) aNil)) (eComp 1 [2, 0] (iRange (aCons (eVar 1) aNil)) (g1 0) (tAnd (tV (eBin (inM false) (eVar 0) (eBin ixM (eVar 2) (eVar 1)))) (tV (eBin neM (eVar 0) (eVar 1)))) (eVar 0))))
        (sRet (eC (.bl false)))
        sEnd))
    (sSeq (sFor (iWalk (eVar 0)) (gN1 3)
      (sFor (iWalk (eVar 3)) (gN1 4)
        (sIf (tNot (tV (eCB allM (aCons (eComp 1 [3] (iWalk (eBin ixM (eVar 0) (eVar 4))) (g1 0) tTrue (eBin (inM false) (eVar 0) (eVar 1))) aNil))))
          (sRet (eC (.bl false)))
          sEnd)))
    (sRet (eC (.bl true)))))))
noncomputable def f_law : FnF := runF 3 1
    (sSeq (sSet 1 (eCall f_l_rows (aCons (eVar 0) (aCons (eC (.int 0)) (aCons (eC (.int 100003)) aNil)))))
    (sSeq (sSet 2 (eCall f_l_rows (aCons (eVar 0) (aCons (eC (.int 3)) (aCons (eC (.int 300007)) aNil)))))
    (sSeq (sIf (tOr (tNot (tV (eCall (LL.f_l_same 6) (aCons (eCall LL.f_is_order (aCons (eVar 1) aNil)) (aCons (eCall f_l_is (aCons (eVar 1) aNil)) aNil))))) (tNot (tV (eCall (LL.f_l_same 6) (aCons (eCall LL.f_is_order (aCons (eVar 2) aNil)) (aCons (eCall f_l_is (aCons (eVar 2) aNil)) aNil))))))
      (sRet (eC (.bl false)))
      sEnd)
    (sRet (eCall (LL.f_l_same 6) (aCons (eCall LL.f_is_order (aCons (eVar 1) aNil)) (aCons (eCall f_l_is (aCons (eVar 1) aNil)) aNil)))))))
end K01
end
section
set_option Elab.async false
set_option linter.all false
set_option maxRecDepth 100000
set_option maxHeartbeats 999999
namespace K01
open PySem L3 L4 LL
noncomputable def below (x : List (List Int)) (r : List Int) : Bool := r.all fun t => (row x t).all fun c => r.contains c
noncomputable def rowB (x : List (List Int)) (b : Int) : Bool := K05.ris x.length (row x b) && (!(row x b).contains b && below x (row x b))
noncomputable def tells (x : List (List Int)) : Bool := decide (x.length ≤ 9) && (rngP 0 x.length).all fun b => rowB x b
noncomputable def fil (x : List (List Int)) (b : Int) : List Int := (rngP 0 x.length).filter fun a => (row x b).contains a && decide (a ≠ b)
section
variable {x : List (List Int)}
theorem below_ok (sh : ∀ r ∈ x, r.length ≤ 1000) {r : List Int} (hr : ∀ t ∈ r, 0 ≤ t ∧ t < (x.length : Int)) : f_has_all_below [ordD x, tupI r] = .ok (.bl (below x r)) := by
  unfold f_has_all_below
  have key := loop_allA (g := gN1 2) (b := (sIf (tNot (tV (eCB allM (aCons (eComp 1 [1] (iWalk (eBin ixM (eVar 0) (eVar 2))) (g1 0) tTrue (eBin (inM false) (eVar 0) (eVar 1))) aNil))))
        (sRet (eC (.bl false)))
        sEnd)) (z := .bl false) (fun ρ => ∃ v, ρ = [Sv.ro (ordD x), Sv.ro (tupI r), v]) D.int (fun t => (row x t).all fun c => r.contains c) r [Sv.ro (ordD x), Sv.ro (tupI r), Sv.no] ⟨_, rfl⟩ fun t ht ρ hp => by
    obtain ⟨v, rfl⟩ := hp
    have rt := hr t ht
    refine ⟨[Sv.ro (ordD x), Sv.ro (tupI r), Sv.ro (.int t)], rfl, ?_⟩
    have c1 : tNot (tV (eCB allM (aCons (eComp 1 [1] (iWalk (eBin ixM (eVar 0) (eVar 2))) (g1 0) tTrue (eBin (inM false) (eVar 0) (eVar 1))) aNil))) (vAll [Sv.ro (ordD x), Sv.ro (tupI r), Sv.ro (.int t)]) = some (!((row x t).all fun c => r.contains c)) := by
      refine tnE (tvE (d := .bl ((row x t).all fun c => r.contains c)) (cb1E (x := .lst ((row x t).map fun c => D.bl (r.contains c))) (compE ((row x t).map D.int) ?_ ?_ (comp_mapE D.int (fun c => D.bl (r.contains c)) _ fun c hc => ⟨_, rfl, binE (x := .int c) (y := tupI r) rfl rfl in_tup⟩)) ?_) rfl) rfl
      · unfold iWalk
        rw [binE (g := ixM) (a := eVar 0) (b := eVar 2) (x := ordD x) (y := .int t) rfl rfl (ord_at rt.1 rt.2)]
        rfl
      · have := sh _ (List.mem_of_getElem? (row_some rt.1 rt.2))
        rw [List.length_map]
        omega
      · have e : ((row x t).map fun c => D.bl (r.contains c)) = ((row x t).map fun c => r.contains c).map D.bl := by rw [List.map_map]; rfl
        rw [e, all_bls, List.all_map]
        rfl
    exact ⟨fun h => nx_if false (by rw [c1, h]; rfl) (fun z => by cases z) fun _ => ⟨_, rfl, _, rfl⟩, fun h => ifT (by rw [c1, h]; rfl) (retE rfl)⟩
  refine runE rfl ?_
  cases h : below x r with
  | true =>
    obtain ⟨ρ, e, v, rfl⟩ := key.1 h
    exact seqE _ (forE (r.map D.int) rfl e) (retE rfl)
  | false => exact seqR (forE (r.map D.int) rfl (key.2 h))
theorem is_row_all (sh : ∀ r ∈ x, r.length ≤ 1000) {b : Int} (h0 : 0 ≤ b) (h1 : b < (x.length : Int)) : f_is_row [ordD x, .int b] = .ok (.bl (rowB x b)) := by
  unfold f_is_row
  refine runE rfl (seqE [.ro (ordD x), .ro (.int b), .ro (tupI (row x b))] (setE _ (binE (x := ordD x) (y := .int b) rfl rfl (ord_at h0 h1)) rfl) (retE ?_))
  refine andE (p := K05.ris x.length (row x b)) (call2E (x := tupI (row x b)) (y := .int x.length) rfl (cb1E rfl len_ord) K05.is_rising_all) (fun hr => ?_) fun hr => by unfold rowB; rw [hr]; rfl
  unfold rowB
  rw [hr, Bool.true_and]
  refine andE (p := !(row x b).contains b) (binE (x := .int b) (y := tupI (row x b)) rfl rfl nin_tup) (fun _ => ?_) fun h => by rw [h]; rfl
  rw [show (!(row x b).contains b) = true by assumption, Bool.true_and]
  exact call2E (x := ordD x) (y := tupI (row x b)) rfl rfl (below_ok sh (K05.ris_iff.1 hr).2)
theorem is_order_all (sh : ∀ r ∈ x, r.length ≤ 1000) (hl : x.length ≤ 1000) : f_is_order [ordD x] = .ok (.bl (tells x)) := by
  unfold f_is_order
  have tm : f_are_too_many [.int x.length] = .ok (.bl (!decide (x.length ≤ 9))) := by
    unfold f_are_too_many
    refine runE rfl (retE (binE (x := .int x.length) (y := .int 9) rfl rfl ?_))
    rw [gtM_int]
    congr 2
    by_cases h : x.length ≤ 9
    · rw [decide_eq_true h, decide_eq_false (by omega)]; rfl
    · rw [decide_eq_false h, decide_eq_true (by omega)]; rfl
  refine runE rfl ?_
  unfold tells
  by_cases h9 : x.length ≤ 9
  · rw [decide_eq_true h9] at tm ⊢
    refine seqE _ (ifF (tvE (call1E (x := .int x.length) (cb1E rfl len_ord) tm) rfl) rfl) (retE ?_)
    refine cb1E (x := .lst ((rngP 0 x.length).map fun b => D.bl (rowB x b))) (compE ((rngP 0 x.length).map D.int) (rng1E (cb1E rfl len_ord) (by omega)) (by rw [List.length_map, rngP_length]; omega) (comp_mapE D.int (fun b => D.bl (rowB x b)) _ fun b hb => ?_)) ?_
    · have hr := rngP_mem.1 hb
      exact ⟨_, rfl, call2E rfl rfl (is_row_all sh (by omega) (by omega))⟩
    · have e : ((rngP 0 x.length).map fun b => D.bl (rowB x b)) = ((rngP 0 x.length).map fun b => rowB x b).map D.bl := by rw [List.map_map]; rfl
      rw [e, all_bls, List.all_map, Bool.true_and]
      rfl
  · rw [decide_eq_false h9] at tm ⊢
    exact seqR (ifT (tvE (call1E (x := .int x.length) (cb1E rfl len_ord) tm) rfl) (retE rfl))
theorem rows_rng : (rngP 0 x.length).map (row x) = x := by
  refine List.ext_getElem (by rw [List.length_map, rngP_length]) fun i h1 h2 => ?_
  rw [List.getElem_map]
  have e : (rngP 0 x.length)[i]'(by rwa [List.length_map] at h1) = (i : Int) := by
    unfold rngP
    rw [List.getElem_map, List.getElem_range]
    omega
  rw [e]
  have := row_some (x := x) (t := (i : Int)) (by omega) (by omega)
  rw [Int.toNat_natCast, List.getElem?_eq_getElem h2] at this
  exact Eq.symm (Option.some.inj this)
theorem row_fil {b : Int} : (K05.ris x.length (row x b) && !(row x b).contains b) = decide (row x b = fil x b) := by
  rw [Bool.eq_iff_iff, decide_eq_true_eq, Bool.and_eq_true, K05.ris_fil, decide_eq_true_eq, Bool.not_eq_true']
  constructor
  · rintro ⟨h1, h2⟩
    conv => lhs; rw [h1]
    unfold K05.fil fil
    refine List.filter_congr fun a _ => ?_
    by_cases hab : a = b
    · subst hab; rw [h2]; rfl
    · rw [decide_eq_true hab, Bool.and_true]
  · intro h
    have mem : ∀ a ∈ row x b, a ≠ b := fun a ha => by
      rw [h] at ha
      have := (List.mem_filter.1 ha).2
      rw [Bool.and_eq_true, decide_eq_true_eq] at this
      exact this.2
    refine ⟨?_, ?_⟩
    · conv => lhs; rw [h]
      unfold K05.fil fil
      refine List.filter_congr fun a _ => ?_
      cases hc : (row x b).contains a with
      | false => rfl
      | true =>
        rw [decide_eq_true (mem a (List.contains_iff_mem.1 hc))]; rfl
    · cases hc : (row x b).contains b with
      | false => rfl
      | true => exact absurd rfl (mem b (List.contains_iff_mem.1 hc))
noncomputable def lawB (x : List (List Int)) : Bool := decide (x.length ≤ 9) && ((rngP 0 x.length).all (fun b => decide (row x b = fil x b)) && x.all fun r => below x r)
theorem all_and {α : Type} (p q : α → Bool) : ∀ l : List α, (l.all fun a => p a && q a) = (l.all p && l.all q)
  | [] => rfl
  | a :: l => by
    rw [List.all_cons, List.all_cons, List.all_cons, all_and p q l]
    cases p a <;> cases q a <;> cases l.all p <;> cases l.all q <;> rfl
theorem tells_law : tells x = lawB x := by
  unfold tells lawB
  congr 1
  have e : x.all (fun r => below x r) = (rngP 0 x.length).all fun b => below x (row x b) := by
    conv => lhs; arg 1; rw [← rows_rng (x := x)]
    rw [List.all_map]
    rfl
  rw [e, ← all_and]
  congr 1
  funext b
  unfold rowB
  rw [← Bool.and_assoc, row_fil]
theorem rng_of {b : Int} (h : row x b = fil x b) : ∀ t ∈ row x b, 0 ≤ t ∧ t < (x.length : Int) := fun t ht => by
  rw [h] at ht
  have := rngP_mem.1 (List.mem_filter.1 ht).1
  omega
theorem l_is_all (sh : ∀ r ∈ x, r.length ≤ 1000) (hl : x.length ≤ 1000) : f_l_is [ordD x] = .ok (.bl (tells x)) := by
  rw [tells_law]
  unfold f_l_is
  refine runE rfl (seqE [.ro (ordD x), .ro (.int x.length), .no, .no, .no] (setE _ (cb1E rfl len_ord) rfl) ?_)
  unfold lawB
  by_cases h9 : x.length ≤ 9
  · rw [decide_eq_true h9, Bool.true_and]
    refine seqE _ (ifF (tvE (binE (x := .int x.length) (y := .int 9) rfl rfl gtM_int) (by rw [decide_eq_false (by omega)]; rfl)) rfl) ?_
    have L1 := loop_allA (g := gN1 2) (b := (sIf (tV (eBin neLM (eCB listM (aCons (eBin ixM (eVar 0) (eVar 2)) aNil)) (eComp 1 [2, 0] (iRange (aCons (eVar 1) aNil)) (g1 0) (tAnd (tV (eBin (inM false) (eVar 0) (eBin ixM (eVar 2) (eVar 1)))) (tV (eBin neM (eVar 0) (eVar 1)))) (eVar 0))))
        (sRet (eC (.bl false)))
        sEnd)) (z := .bl false) (fun ρ => ∃ v, ρ = [Sv.ro (ordD x), Sv.ro (.int x.length), v, Sv.no, Sv.no]) D.int (fun b => decide (row x b = fil x b)) (rngP 0 x.length) [Sv.ro (ordD x), Sv.ro (.int x.length), Sv.no, Sv.no, Sv.no] ⟨_, rfl⟩ fun b hb ρ hp => by
      obtain ⟨v, rfl⟩ := hp
      have rb := rngP_mem.1 hb
      refine ⟨[Sv.ro (ordD x), Sv.ro (.int x.length), Sv.ro (.int b), Sv.no, Sv.no], rfl, ?_⟩
      have at1 := ord_at (rows := x) (i := b) (by omega) (by omega)
      have c1 : tV (eBin neLM (eCB listM (aCons (eBin ixM (eVar 0) (eVar 2)) aNil)) (eComp 1 [2, 0] (iRange (aCons (eVar 1) aNil)) (g1 0) (tAnd (tV (eBin (inM false) (eVar 0) (eBin ixM (eVar 2) (eVar 1)))) (tV (eBin neM (eVar 0) (eVar 1)))) (eVar 0))) (vAll [Sv.ro (ordD x), Sv.ro (.int x.length), Sv.ro (.int b), Sv.no, Sv.no]) = some (!decide (row x b = fil x b)) := by
        refine tvE (binE (x := lstI (row x b)) (y := lstI (fil x b)) (cb1E (x := tupI (row x b)) (binE (x := ordD x) (y := .int b) rfl rfl at1) rfl) (compE ((rngP 0 x.length).map D.int) (rng1E rfl (by omega)) (by rw [List.length_map, rngP_length]; omega) (comp_filter D.int (fun a => (row x b).contains a && decide (a ≠ b)) D.int _ fun a _ => ⟨_, rfl, ?_, fun _ => rfl⟩)) K05.ne_ints) rfl
        refine tandE (b := (row x b).contains a) (tvE (binE (x := .int a) (y := tupI (row x b)) rfl (binE (x := ordD x) (y := .int b) rfl rfl at1) in_tup) rfl) (fun h => ?_) fun h => by rw [h]; rfl
        rw [h, Bool.true_and]
        refine tvE (binE (x := .int a) (y := .int b) rfl rfl neM_int) ?_
        show some _ = some _
        congr 1
        by_cases hab : a = b
        · rw [decide_eq_true hab, decide_eq_false (by simp [hab])]; rfl
        · rw [decide_eq_false hab, decide_eq_true hab]; rfl
      exact ⟨fun h => nx_if false (by rw [c1, h]; rfl) (fun z => by cases z) fun _ => ⟨_, rfl, _, rfl⟩, fun h => ifT (by rw [c1, h]; rfl) (retE rfl)⟩
    cases hA : (rngP 0 x.length).all fun b => decide (row x b = fil x b) with
    | false => exact seqR (forE ((rngP 0 x.length).map D.int) (rng1E rfl (by omega)) (L1.2 hA))
    | true =>
      obtain ⟨ρ, e, v, rfl⟩ := L1.1 hA
      refine seqE _ (forE ((rngP 0 x.length).map D.int) (rng1E rfl (by omega)) e) ?_
      rw [List.all_eq_true] at hA
      have rg : ∀ r ∈ x, ∀ t ∈ r, 0 ≤ t ∧ t < (x.length : Int) := fun r hr => by
        rw [← rows_rng (x := x)] at hr
        obtain ⟨b, hb, rfl⟩ := List.mem_map.1 hr
        exact rng_of (by simpa using hA b hb)
      have L2 := loop_allA (g := gN1 3) (b := (sFor (iWalk (eVar 3)) (gN1 4)
        (sIf (tNot (tV (eCB allM (aCons (eComp 1 [3] (iWalk (eBin ixM (eVar 0) (eVar 4))) (g1 0) tTrue (eBin (inM false) (eVar 0) (eVar 1))) aNil))))
          (sRet (eC (.bl false)))
          sEnd))) (z := .bl false) (fun ρ => ∃ v3 v4, ρ = [Sv.ro (ordD x), Sv.ro (.int x.length), v, v3, v4]) tupI (fun r => below x r) x [Sv.ro (ordD x), Sv.ro (.int x.length), v, Sv.no, Sv.no] ⟨_, _, rfl⟩ fun r hr ρ hp => by
        obtain ⟨v3, v4, rfl⟩ := hp
        refine ⟨[Sv.ro (ordD x), Sv.ro (.int x.length), v, Sv.ro (tupI r), v4], rfl, ?_⟩
        have L3 := loop_allA (g := gN1 4) (b := (sIf (tNot (tV (eCB allM (aCons (eComp 1 [3] (iWalk (eBin ixM (eVar 0) (eVar 4))) (g1 0) tTrue (eBin (inM false) (eVar 0) (eVar 1))) aNil))))
          (sRet (eC (.bl false)))
          sEnd)) (z := .bl false) (fun ρ => ∃ v4, ρ = [Sv.ro (ordD x), Sv.ro (.int x.length), v, Sv.ro (tupI r), v4]) D.int (fun t => (row x t).all fun c => r.contains c) r [Sv.ro (ordD x), Sv.ro (.int x.length), v, Sv.ro (tupI r), v4] ⟨_, rfl⟩ fun t ht ρ hp => by
          obtain ⟨v4, rfl⟩ := hp
          have rt := rg r hr t ht
          refine ⟨[Sv.ro (ordD x), Sv.ro (.int x.length), v, Sv.ro (tupI r), Sv.ro (.int t)], rfl, ?_⟩
          have c1 : tNot (tV (eCB allM (aCons (eComp 1 [3] (iWalk (eBin ixM (eVar 0) (eVar 4))) (g1 0) tTrue (eBin (inM false) (eVar 0) (eVar 1))) aNil))) (vAll [Sv.ro (ordD x), Sv.ro (.int x.length), v, Sv.ro (tupI r), Sv.ro (.int t)]) = some (!((row x t).all fun c => r.contains c)) := by
            refine tnE (tvE (d := .bl ((row x t).all fun c => r.contains c)) (cb1E (x := .lst ((row x t).map fun c => D.bl (r.contains c))) (compE ((row x t).map D.int) ?_ ?_ (comp_mapE D.int (fun c => D.bl (r.contains c)) _ fun c hc => ⟨_, rfl, binE (x := .int c) (y := tupI r) rfl rfl in_tup⟩)) ?_) rfl) rfl
            · unfold iWalk
              rw [binE (g := ixM) (a := eVar 0) (b := eVar 4) (x := ordD x) (y := .int t) rfl rfl (ord_at rt.1 rt.2)]
              rfl
            · have := sh _ (List.mem_of_getElem? (row_some rt.1 rt.2))
              rw [List.length_map]
              omega
            · have e : ((row x t).map fun c => D.bl (r.contains c)) = ((row x t).map fun c => r.contains c).map D.bl := by rw [List.map_map]; rfl
              rw [e, all_bls, List.all_map]
              rfl
          exact ⟨fun h => nx_if false (by rw [c1, h]; rfl) (fun z => by cases z) fun _ => ⟨_, rfl, _, rfl⟩, fun h => ifT (by rw [c1, h]; rfl) (retE rfl)⟩
        refine ⟨fun h => ?_, fun h => ?_⟩
        · obtain ⟨ρ, e, v4', rfl⟩ := L3.1 h
          exact ⟨_, forE (r.map D.int) rfl e, _, _, rfl⟩
        · exact forE (r.map D.int) rfl (L3.2 h)
      rw [Bool.true_and]
      cases hB : x.all fun r => below x r with
      | true =>
        obtain ⟨ρ, e, v3, v4, rfl⟩ := L2.1 hB
        exact seqE _ (forE (x.map tupI) rfl e) (retE rfl)
      | false => exact seqR (forE (x.map tupI) rfl (L2.2 hB))
  · rw [decide_eq_false h9]
    exact seqR (ifT (tvE (binE (x := .int x.length) (y := .int 9) rfl rfl gtM_int) (by rw [decide_eq_true (by omega)]; rfl)) (retE rfl))
end
theorem rowsC_ok {nl : List Nat} {ρ : DEnv} : ∀ x : List (List Int), rowsC (g1 0) (eCB listM (aCons (eVar 0) aNil)) (benv 1 [] ρ) (x.map tupI) = some x
  | [] => rfl
  | r :: x => by
    rw [List.map_cons, rowsC]
    show (lstInts (lstI r)).bind _ = _
    rw [show lstInts (lstI r) = some r from intsOf_map r]
    show ((rowsC (g1 0) (eCB listM (aCons (eVar 0) aNil)) (benv 1 [] ρ) (x.map tupI)).map (r :: ·)) = _
    rw [rowsC_ok (nl := nl) x]
    rfl
theorem cut_map {α : Type} (f : α → D) (l : List α) (lo hi : Option Int) : cutP (l.map f) lo hi = ((l.drop (sIxP l.length 0 lo)).take (sIxP l.length l.length hi - sIxP l.length 0 lo)).map f := by
  unfold cutP
  rw [List.length_map, ← List.map_drop, ← List.map_take]
theorem at_rows {x : List (List Int)} {b : Int} (h0 : 0 ≤ b) (h1 : b < (x.length : Int)) : ixM (.lst (lstsI x)) (.int b) = some (lstI (row x b)) := by
  show atP (lstsI x) b = _
  have := row_some (x := x) h0 h1
  rw [show b = ((b.toNat : Nat) : Int) by omega]
  refine atP_get ?_
  unfold lstsI
  rw [List.getElem?_map, this]
  rfl
theorem slE {f : EF} {lo hi : OF} {ρ : DEnv} {d : D} {l h : Option Int} {z : Option D} (hf : f ρ = some d) (hl : lo ρ = some l) (hh : hi ρ = some h) (e : slM d l h = z) : eSl f lo hi ρ = z := by
  unfold eSl
  rw [hf]
  show (lo ρ).bind _ = _
  rw [hl]
  show (hi ρ).bind _ = _
  rw [hh]
  exact e
theorem lst2 {a b : EF} {ρ : DEnv} {u v : D} (ha : a ρ = some u) (hb : b ρ = some v) : eLst (aCons a (aCons b aNil)) ρ = some (.lst [u, v]) := by
  unfold eLst aCons
  rw [ha]
  show (((b ρ).bind _).bind _).bind _ = _
  rw [hb]
  rfl
theorem slLE {f : EF} {lo hi : OF} {ρ : DEnv} {d : D} {l h : Option Int} {z : Option D} (hf : f ρ = some d) (hl : lo ρ = some l) (hh : hi ρ = some h) (e : slLM d l h = z) : eSlL f lo hi ρ = z := by
  unfold eSlL
  rw [hf]
  show (lo ρ).bind _ = _
  rw [hl]
  show (hi ρ).bind _ = _
  rw [hh]
  exact e
noncomputable def Sm (m : Nat) (y : List (List Int)) : Prop := y.length ≤ m ∧ ∀ r ∈ y, r.length ≤ m
noncomputable def Fin (ρ : SEnv) : Prop := ∃ y, eVar 3 (vAll (castS ρ 3)) = some (.lst (lstsI y)) ∧ Sm 40 y
theorem imm_ints : ∀ r : List Int, lstImm (lstI r) = true
  | [] => rfl
  | _ :: r => imm_ints r
theorem putL {ρ : SEnv} {x : List (List Int)} {f k : EF} {r : List Int} {b : Int} (h3 : ρ[3]? = some (.ow (.lst (lstsI x)))) (hf : f (vAll ρ) = some (lstI r)) (hk : k (vAll ρ) = some (.int b)) (h0 : 0 ≤ b) (h1 : b < (x.length : Int)) :
    sPut 3 (xPureL f) k ρ = .nx (ρ.set 3 (.ow (.lst (lstsI (x.set b.toNat r))))) := by
  unfold sPut xPureL
  rw [hf]
  show (match (if lstImm (lstI r) = true then some (ρ, lstI r) else none).bind _ with | some ρ' => Out.nx ρ' | none => Out.no) = _
  rw [if_pos (imm_ints r)]
  show (match (ownL ρ[3]?).bind _ with | some ρ' => Out.nx ρ' | none => Out.no) = _
  rw [h3]
  show (match (k (vAll ρ)).bind _ with | some ρ' => Out.nx ρ' | none => Out.no) = _
  rw [hk]
  have e : ixP (lstsI x).length b = some b.toNat := by
    unfold ixP lstsI
    rw [List.length_map, if_pos h0, if_pos h1]
  show (match (ixP (lstsI x).length b).map _ with | some ρ' => Out.nx ρ' | none => Out.no) = _
  rw [e]
  unfold lstsI
  rw [List.map_set]
  rfl
theorem insE {ρ : SEnv} {x : List (List Int)} {fb fk fe : EF} {b kk y : Int} (h3 : ρ[3]? = some (.ow (.rws x))) (hb : fb (vAll (castS ρ 3)) = some (.int b)) (h0 : 0 ≤ b) (h1 : b < (x.length : Int)) (hk : fk (vAll (castS ρ 3)) = some (.int kk)) (k0 : 0 ≤ kk) (k1 : kk ≤ ((row x b).length : Int)) (hz : (row x b).length < 1000) (he : fe (vAll (castS ρ 3)) = some (.int y)) :
    sRowIns 8 3 fb fk fe ρ = .nx ((List.replicate 8 Sv.no).set 3 (.ow (.lst (lstsI (x.set b.toNat ((row x b).take kk.toNat ++ y :: (row x b).drop kk.toNat)))))) := by
  have e : ixP x.length b = some b.toNat := by
    unfold ixP
    rw [if_pos h0, if_pos h1]
  have z : (0 ≤ kk ∧ kk ≤ ((row x b).length : Int) ∧ (row x b).length < szL) := ⟨k0, k1, by show _ < 16777216; omega⟩
  have q : rowIns 8 3 fb fk fe ρ = some ((List.replicate 8 Sv.no).set 3 (.ow (.lst (lstsI (x.set b.toNat ((row x b).take kk.toNat ++ y :: (row x b).drop kk.toNat)))))) := by
    unfold rowIns
    rw [h3, hb, hk, he]
    show (ixP x.length b).bind _ = _
    rw [e]
    show (x[b.toNat]?).bind _ = _
    rw [row_some h0 h1]
    show (if (0 ≤ kk ∧ kk ≤ ((row x b).length : Int) ∧ (row x b).length < szL) then _ else _) = _
    rw [if_pos z]
  unfold sRowIns
  rw [q]
theorem sm_set {m : Nat} {x : List (List Int)} {b : Nat} {r : List Int} (h : Sm m x) (hr : r.length ≤ m) : Sm m (x.set b r) := ⟨by rw [List.length_set]; exact h.1, fun q hq => by
  rcases List.mem_or_eq_of_mem_set hq with hq | rfl
  · exact h.2 q hq
  · exact hr⟩
section
variable {x : List (List Int)} {d p : List Int} {n b c : Int}
noncomputable abbrev s0 (x : List (List Int)) (d : List Int) (v3 v4 v5 v6 v7 : Sv) : SEnv := [.ro (ordD x), .ro (lstI d), .ro (.int x.length), v3, v4, v5, v6, v7]
theorem cnd {ρ : DEnv} (h : eVar 1 ρ = some (lstI d)) {i k m : Int} (h0 : 0 ≤ i) (h1 : i < (d.length : Int)) (hm : 0 < m) : tV (eBin eqM (eBin modM (eBin ixM (eVar 1) (eC (.int i))) (eC (.int m))) (eC (.int k))) ρ = some (decide (at0 d i % m = k)) :=
  tvE (binE (x := .int (at0 d i % m)) (y := .int k) (binE (x := .int (at0 d i)) (y := .int m) (binE (x := lstI d) (y := .int i) h rfl (at_lst h0 h1)) rfl (modM_int hm)) rfl eqM_int) rfl
theorem mod_at {ρ : DEnv} (h : eVar 1 ρ = some (lstI d)) {i m : Int} {e : EF} (h0 : 0 ≤ i) (h1 : i < (d.length : Int)) (he : e ρ = some (.int m)) (hm : 0 < m) : eBin modM (eBin ixM (eVar 1) (eC (.int i))) e ρ = some (.int (at0 d i % m)) :=
  binE (x := .int (at0 d i)) (y := .int m) (binE (x := lstI d) (y := .int i) h rfl (at_lst h0 h1)) he (modM_int hm)
theorem fin_of {v0 v1 v2 v4 v5 v6 v7 : Sv} {y : List (List Int)} (h : Sm 40 y) : Fin [v0, v1, v2, .ow (.lst (lstsI y)), v4, v5, v6, v7] := ⟨y, rfl, h⟩
theorem cut_fin {r : List Int} {m : Nat} (h : r.length ≤ m) (lo hi : Option Int) : ((r.drop (sIxP r.length 0 lo)).take (sIxP r.length r.length hi - sIxP r.length 0 lo)).length ≤ m := by
  rw [List.length_take, List.length_drop]; omega
theorem sort_len (l : List Int) : (sortI l).length = l.length := (sortI_perm l).length_eq
theorem rows_nx (h : x.length ≤ 1000) : sRows 3 1 [] (iWalk (eVar 0)) (g1 0) (eCB listM (aCons (eVar 0) aNil)) (s0 x d .no .no .no .no .no) = .nx (s0 x d (.ow (.rws x)) .no .no .no .no) := by
  unfold sRows
  show (match (if (x.map tupI).length ≤ szL then rowsC (g1 0) (eCB listM (aCons (eVar 0) aNil)) (benv 1 [] (vRd (s0 x d .no .no .no .no .no))) (x.map tupI) else none) with | some xs => Out.nx ((s0 x d .no .no .no .no .no).set 3 (.ow (.rws xs))) | none => Out.no) = _
  rw [if_pos (by rw [List.length_map]; show _ ≤ 16777216; omega), rowsC_ok (nl := [])]
  rfl
theorem ret_ok {ρ : SEnv} {y : List (List Int)} (e : eVar 3 (vAll (castS ρ 3)) = some (.lst (lstsI y))) (h : Sm 40 y) : sCast 3 (sRet (eCB tupleM (aCons (eComp 1 [] (iWalk (eVar 3)) (g1 0) tTrue (eCB tupleM (aCons (eVar 0) aNil))) aNil))) ρ = .rt (ordD y) := by
  unfold sCast
  refine retE (cb1E (x := .lst (y.map tupI)) (compE (lstsI y) ?_ ?_ (comp_mapE (fun r : List Int => D.lst (r.map D.int)) tupI y fun r _ => ⟨_, rfl, rfl⟩)) rfl)
  · unfold iWalk
    rw [e]
    rfl
  · unfold lstsI
    rw [List.length_map]
    have := h.1
    omega
theorem put_ints {ρ : DEnv} (h1 : eVar 1 ρ = some (lstI d)) (h2 : eVar 2 ρ = some (.int x.length)) (h4 : eVar 4 ρ = some (.int b)) (h5 : eVar 5 ρ = some (.int c)) (hd : d.length = 5) (hn : 0 < x.length) :
    eLst (aCons (eNeg (eC (.int 1))) (aCons (eVar 2) (aCons (eBin subM (eBin powGM (eBin powM (eC (.int 10)) (eC (.int 60))) (eC (.int 10))) (eC (.int 1))) (aCons (eVar 4) (aCons (eVar 5) (aCons (eBin modM (eBin ixM (eVar 1) (eC (.int 3))) (eVar 2)) aNil)))))) ρ = some (lstI [-1, x.length, ((10 : Int) ^ 60) ^ 10 - 1, b, c, at0 d 3 % x.length]) := by
  have m := most_ok ρ
  have a : aCons (eNeg (eC (.int 1))) (aCons (eVar 2) (aCons (eBin subM (eBin powGM (eBin powM (eC (.int 10)) (eC (.int 60))) (eC (.int 10))) (eC (.int 1))) (aCons (eVar 4) (aCons (eVar 5) (aCons (eBin modM (eBin ixM (eVar 1) (eC (.int 3))) (eVar 2)) aNil))))) ρ = some [.int (-1), .int x.length, .int (((10 : Int) ^ 60) ^ 10 - 1), .int b, .int c, .int (at0 d 3 % x.length)] := by
    unfold aCons
    rw [h2, h4, h5, binE (g := subM) (x := .int (((10 : Int) ^ 60) ^ 10)) (y := .int 1) m rfl subM_int, mod_at h1 (by omega) (by omega) h2 (by omega)]
    rfl
  unfold eLst
  rw [a]
  rfl
theorem changed_ok (sh : Sm 9 x) (hd : d.length = 5) (hp : ∀ i : Int, 0 ≤ at0 d i) : ∃ d', f_l_changed [ordD x, lstI d] = .ok d' ∧ ∃ y, Sm 40 y ∧ d' = ordD y := by
  have hn := sh.1
  have s40 : Sm 40 x := ⟨by omega, fun r hr => Nat.le_trans (sh.2 r hr) (by omega)⟩
  have rl : ∀ t : Int, 0 ≤ t → t < (x.length : Int) → (row x t).length ≤ 9 := fun t h0 h1 => sh.2 _ (List.mem_of_getElem? (row_some h0 h1))
  unfold f_l_changed
  refine run_ok rfl (rt_seq (fun ρ => ρ = s0 x d .no .no .no .no .no) ⟨_, setE _ (cb1E rfl len_ord) rfl, rfl⟩ ?_)
  rintro _ rfl
  refine rt_seq (fun ρ => ρ = s0 x d (.ow (.rws x)) .no .no .no .no) ⟨_, rows_nx (by omega), rfl⟩ ?_
  rintro _ rfl
  refine rt_seq Fin ?_ fun ρ ⟨y, e, sm⟩ => ⟨_, ret_ok e sm, y, sm, rfl⟩
  refine nx_if _ (cnd (d := d) rfl (by omega) (by omega) (by omega)) (fun _ => ?_) fun n0 => ?_
  · have hsl : eSlL (eVar 3) oNo (oE (eBin subM (eVar 2) (eC (.int 1)))) (vRd (s0 x d (.ro (.lst (lstsI x))) .no .no .no .no)) = some (.lst (cutP (lstsI x) none (some ((x.length : Int) - 1)))) := slLE (d := .lst (lstsI x)) (l := none) (h := some ((x.length : Int) - 1)) rfl rfl rfl rfl
    refine ⟨_, show sOwn 3 _ (s0 x d (.ro (.lst (lstsI x))) .no .no .no .no) = _ from ownE hsl, ?_⟩
    show Fin [_, _, _, .ow (.lst (cutP (x.map _) _ _)), _, _, _, _]
    rw [cut_map]
    refine fin_of ⟨?_, fun r hr => s40.2 r (List.mem_of_mem_drop (List.mem_of_mem_take hr))⟩
    rw [List.length_take, List.length_drop]
    omega
  refine nx_if (decide (at0 d 0 % 12 = 1) || decide ((x.length : Int) = 0)) (torE (cnd (d := d) rfl (by omega) (by omega) (by omega)) (fun h => by rw [h, Bool.false_or]; exact tvE (binE (x := .int x.length) (y := .int 0) rfl rfl eqM_int) rfl) fun h => by rw [h]; rfl) (fun _ => ?_) fun n1 => ?_
  · have hb : at0 d 1 % 2 = 0 ∨ at0 d 1 % 2 = 1 := by omega
    have e1 : eListR (aCons (eVar 2) aNil) (vRd (castS (s0 x d (.ow (.rws x)) .no .no .no .no) 3)) = some (lstI (rngP 0 x.length)) := by
      show (if ((x.length : Int)).natAbs ≤ 16777216 then some (D.lst ((rngP 0 ((x.length : Int)).toNat).map D.int)) else none) = _
      rw [if_pos (by omega), Int.toNat_natCast]
      rfl
    have el : eLst (aCons (eLst aNil) (aCons (eListR (aCons (eVar 2) aNil)) aNil)) (vRd (castS (s0 x d (.ow (.rws x)) .no .no .no .no) 3)) = some (.lst (lstsI [[], rngP 0 x.length])) := lst2 (u := lstI []) rfl e1
    have hv : eBin ixM (eLst (aCons (eLst aNil) (aCons (eListR (aCons (eVar 2) aNil)) aNil))) (eBin modM (eBin ixM (eVar 1) (eC (.int 1))) (eC (.int 2))) (vRd (castS (s0 x d (.ow (.rws x)) .no .no .no .no) 3)) = some (lstI (row [[], rngP 0 x.length] (at0 d 1 % 2))) :=
      binE el (mod_at (d := d) (m := 2) rfl (by omega) (by omega) rfl (by omega)) (at_rows (by omega) (by show _ < ((2 : Nat) : Int); omega))
    refine ⟨_, appE (ds := lstsI x) hv rfl (by unfold lstsI; rw [List.length_map]; omega), ?_⟩
    have e : lstsI x ++ [lstI (row [[], rngP 0 x.length] (at0 d 1 % 2))] = lstsI (x ++ [row [[], rngP 0 x.length] (at0 d 1 % 2)]) := by unfold lstsI; rw [List.map_append]; rfl
    show Fin [_, _, _, .ow (.lst (lstsI x ++ [lstI (row [[], rngP 0 x.length] (at0 d 1 % 2))])), _, _, _, _]
    rw [e]
    refine fin_of ⟨by rw [List.length_append, List.length_singleton]; omega, fun r hr => ?_⟩
    rcases List.mem_append.1 hr with hr | hr
    · exact s40.2 r hr
    · rw [List.mem_singleton.1 hr]
      rcases hb with hb | hb <;> rw [hb]
      · exact Nat.zero_le _
      · show (rngP 0 x.length).length ≤ 40
        rw [rngP_length]; omega
  have hx0 : 0 < x.length := by
    rw [Bool.or_eq_false_iff, decide_eq_false_iff_not, decide_eq_false_iff_not] at n1
    omega
  have hb0 := Int.emod_nonneg (at0 d 1) (show (x.length : Int) ≠ 0 by omega)
  have hb1 := Int.emod_lt_of_pos (at0 d 1) (show (0 : Int) < x.length by omega)
  have hc0 := Int.emod_nonneg (at0 d 2) (show (x.length : Int) ≠ 0 by omega)
  have hc1 := Int.emod_lt_of_pos (at0 d 2) (show (0 : Int) < x.length by omega)
  generalize eb : at0 d 1 % (x.length : Int) = b at hb0 hb1
  generalize ec : at0 d 2 % (x.length : Int) = c at hc0 hc1
  refine nx_seq (fun ρ => ρ = s0 x d (.ow (.rws x)) (.ro (.int b)) .no .no .no) ⟨_, setE (.int b) (by rw [← eb]; exact mod_at (d := d) rfl (by omega) (by omega) rfl (by omega)) rfl, rfl⟩ ?_
  rintro _ rfl
  refine nx_seq (fun ρ => ρ = s0 x d (.ow (.rws x)) (.ro (.int b)) (.ro (.int c)) .no .no) ⟨_, setE (.int c) (by rw [← ec]; exact mod_at (d := d) rfl (by omega) (by omega) rfl (by omega)) rfl, rfl⟩ ?_
  rintro _ rfl
  generalize ep : [-1, (x.length : Int), ((10 : Int) ^ 60) ^ 10 - 1, b, c, at0 d 3 % x.length] = p
  have hpl : p.length = 6 := by rw [← ep]; rfl
  refine nx_seq (fun ρ => ρ = s0 x d (.ow (.rws x)) (.ro (.int b)) (.ro (.int c)) (.ro (lstI p)) .no) ⟨_, setE (lstI p) (by rw [← ep]; exact put_ints (d := d) rfl rfl rfl rfl hd hx0) rfl, rfl⟩ ?_
  rintro _ rfl
  have rdb : ∀ {v7 : Sv}, eBin ixM (eVar 3) (eVar 4) (vAll (s0 x d (.ow (.lst (lstsI x))) (.ro (.int b)) (.ro (.int c)) (.ro (lstI p)) v7)) = some (lstI (row x b)) := fun {v7} => binE (x := .lst (lstsI x)) (y := .int b) rfl rfl (at_rows hb0 hb1)
  have lb := rl b hb0 hb1
  have lc := rl c hc0 hc1
  have fs : ∀ {r : List Int} {v7 : Sv}, r.length ≤ 40 → Fin (s0 x d (.ow (.lst (lstsI (x.set b.toNat r)))) (.ro (.int b)) (.ro (.int c)) (.ro (lstI p)) v7) := fun hr => fin_of (sm_set s40 hr)
  refine nx_if _ (cnd (d := d) rfl (by omega) (by omega) (by omega)) (fun _ => ?_) fun n2 => ?_
  · refine ⟨_, putL (x := x) (r := (row x b).reverse) (b := b) rfl ?_ rfl hb0 hb1, fs (by rw [List.length_reverse]; omega)⟩
    show (eBin ixM (eVar 3) (eVar 4) (vAll (s0 x d (.ow (.lst (lstsI x))) (.ro (.int b)) (.ro (.int c)) (.ro (lstI p)) .no))).bind revSM = _
    rw [rdb]
    show some (D.lst ((row x b).map D.int).reverse) = _
    rw [← List.map_reverse]
    rfl
  refine nx_if _ (cnd (d := d) rfl (by omega) (by omega) (by omega)) (fun _ => ?_) fun n3 => ?_
  · have hs : eSl (eBin ixM (eVar 3) (eVar 4)) (oE (eBin modM (eBin ixM (eVar 1) (eC (.int 3))) (eC (.int 3)))) oNo (vAll (s0 x d (.ow (.lst (lstsI x))) (.ro (.int b)) (.ro (.int c)) (.ro (lstI p)) .no)) = some (lstI (((row x b).drop (sIxP (row x b).length 0 (some (at0 d 3 % 3)))).take (sIxP (row x b).length (row x b).length none - sIxP (row x b).length 0 (some (at0 d 3 % 3))))) := by
      refine slE (d := lstI (row x b)) (l := some (at0 d 3 % 3)) (h := none) rdb (show (eBin modM _ _ _).bind _ = _ by rw [mod_at (d := d) (m := 3) rfl (by omega) (by omega) rfl (by omega)]; rfl) rfl ?_
      show some (D.lst (cutP ((row x b).map D.int) _ _)) = _
      rw [cut_map]
      rfl
    have lz := cut_fin lb (some (at0 d 3 % 3)) none
    generalize ((row x b).drop (sIxP (row x b).length 0 (some (at0 d 3 % 3)))).take (sIxP (row x b).length (row x b).length none - sIxP (row x b).length 0 (some (at0 d 3 % 3))) = z at hs lz
    refine ⟨_, putL (x := x) (r := row x b ++ z) (b := b) rfl (binE rdb hs ?_) rfl hb0 hb1, fs (by rw [List.length_append]; omega)⟩
    show (if ((row x b).map D.int).length + (z.map D.int).length ≤ szL then some (D.lst ((row x b).map D.int ++ z.map D.int)) else none) = _
    rw [if_pos (by rw [List.length_map, List.length_map]; show _ ≤ 16777216; omega), ← List.map_append]
    rfl
  refine nx_if _ (cnd (d := d) rfl (by omega) (by omega) (by omega)) (fun _ => ?_) fun n4 => ?_
  · have hm : eBin modM (eBin ixM (eVar 1) (eC (.int 3))) (eBin addM (eCB lenM (aCons (eBin ixM (eVar 3) (eVar 4)) aNil)) (eC (.int 1))) (vAll (s0 x d (.ow (.lst (lstsI x))) (.ro (.int b)) (.ro (.int c)) (.ro (lstI p)) .no)) = some (.int (at0 d 3 % ((row x b).length + 1))) :=
      mod_at (d := d) rfl (by omega) (by omega) (binE (x := .int (row x b).length) (y := .int 1) (cb1E rdb (by show some _ = some _; rw [List.length_map])) rfl addM_int) (by omega)
    generalize at0 d 3 % ((row x b).length + 1 : Int) = a at hm
    refine nx_seq (fun ρ => ρ = s0 x d (.ow (.lst (lstsI x))) (.ro (.int b)) (.ro (.int c)) (.ro (lstI p)) (.ro (.int a))) ⟨_, ?_, rfl⟩ ?_
    · show sSetX 7 _ (s0 x d (.ow (.lst (lstsI x))) (.ro (.int b)) (.ro (.int c)) (.ro (lstI p)) .no) = _
      unfold sSetX xPure
      rw [hm]
      rfl
    rintro _ rfl
    have hs1 : eSl (eBin ixM (eVar 3) (eVar 4)) oNo (oE (eVar 7)) (vAll (s0 x d (.ow (.lst (lstsI x))) (.ro (.int b)) (.ro (.int c)) (.ro (lstI p)) (.ro (.int a)))) = some (lstI (((row x b).drop (sIxP (row x b).length 0 none)).take (sIxP (row x b).length (row x b).length (some a) - sIxP (row x b).length 0 none))) := by
      refine slE (d := lstI (row x b)) (l := none) (h := some a) rdb rfl rfl ?_
      show some (D.lst (cutP ((row x b).map D.int) _ _)) = _
      rw [cut_map]
      rfl
    have hs2 : eSl (eBin ixM (eVar 3) (eVar 4)) (oE (eBin addM (eVar 7) (eC (.int 1)))) oNo (vAll (s0 x d (.ow (.lst (lstsI x))) (.ro (.int b)) (.ro (.int c)) (.ro (lstI p)) (.ro (.int a)))) = some (lstI (((row x b).drop (sIxP (row x b).length 0 (some (a + 1)))).take (sIxP (row x b).length (row x b).length none - sIxP (row x b).length 0 (some (a + 1))))) := by
      refine slE (d := lstI (row x b)) (l := some (a + 1)) (h := none) rdb rfl rfl ?_
      show some (D.lst (cutP ((row x b).map D.int) _ _)) = _
      rw [cut_map]
      rfl
    have l1 := cut_fin lb none (some a)
    have l2 := cut_fin lb (some (a + 1)) none
    generalize ((row x b).drop (sIxP (row x b).length 0 none)).take (sIxP (row x b).length (row x b).length (some a) - sIxP (row x b).length 0 none) = z1 at hs1 l1
    generalize ((row x b).drop (sIxP (row x b).length 0 (some (a + 1)))).take (sIxP (row x b).length (row x b).length none - sIxP (row x b).length 0 (some (a + 1))) = z2 at hs2 l2
    refine ⟨_, putL (x := x) (r := z1 ++ z2) (b := b) rfl (binE hs1 hs2 ?_) rfl hb0 hb1, fs (by rw [List.length_append]; omega)⟩
    show (if (z1.map D.int).length + (z2.map D.int).length ≤ szL then some (D.lst (z1.map D.int ++ z2.map D.int)) else none) = _
    rw [if_pos (by rw [List.length_map, List.length_map]; show _ ≤ 16777216; omega), ← List.map_append]
    rfl
  have srt : ∀ {ρ : DEnv} {f g : EF} {r : List Int} {t : Int}, f ρ = some (lstI r) → g ρ = some (.int t) → r.length ≤ 20 → eCB sortedM (aCons (eBin addM f (eLst (aCons g aNil))) aNil) ρ = some (lstI (sortI (r ++ [t]))) := fun {ρ f g r t} hf hg hr => by
    refine cb1E (x := lstI (r ++ [t])) (binE (x := lstI r) (y := lstI [t]) hf ?_ ?_) (sorted_ints (by rw [List.length_append, List.length_singleton]; omega))
    · unfold eLst aCons
      rw [hg]
      rfl
    · show (if (r.map D.int).length + 1 ≤ szL then some (D.lst (r.map D.int ++ [D.int t])) else none) = _
      rw [if_pos (by rw [List.length_map]; show _ ≤ 16777216; omega)]
      show some (D.lst (r.map D.int ++ [t].map D.int)) = _
      rw [← List.map_append]
      rfl
  refine nx_if _ (cnd (d := d) rfl (by omega) (by omega) (by omega)) (fun _ => ?_) fun n5 => ?_
  · refine nx_seq (fun ρ => ρ = s0 x d (.ow (.lst (lstsI (x.set b.toNat (sortI (row x b ++ [c])))))) (.ro (.int b)) (.ro (.int c)) (.ro (lstI p)) .no) ⟨_, putL (x := x) (b := b) rfl (srt rdb rfl (by omega)) rfl hb0 hb1, rfl⟩ ?_
    rintro _ rfl
    have l1 : (sortI (row x b ++ [c])).length ≤ 20 := by rw [sort_len, List.length_append, List.length_singleton]; omega
    have s20 : Sm 20 (x.set b.toNat (sortI (row x b ++ [c]))) := sm_set ⟨by omega, fun r hr => Nat.le_trans (sh.2 r hr) (by omega)⟩ l1
    have hyl : (x.set b.toNat (sortI (row x b ++ [c]))).length = x.length := List.length_set
    generalize x.set b.toNat (sortI (row x b ++ [c])) = y at s20 hyl
    have ly : (row y c).length ≤ 20 := s20.2 _ (List.mem_of_getElem? (row_some hc0 (by omega)))
    refine ⟨_, putL (x := y) (b := c) rfl (srt (binE (x := .lst (lstsI y)) (y := .int c) rfl rfl (at_rows hc0 (by omega))) rfl ly) rfl hc0 (by omega), fin_of (sm_set ⟨by omega, fun r hr => Nat.le_trans (s20.2 r hr) (by omega)⟩ ?_)⟩
    rw [sort_len, List.length_append, List.length_singleton]
    omega
  have hq : 6 ≤ at0 d 0 % 12 ∧ at0 d 0 % 12 < 12 := by
    rw [decide_eq_false_iff_not] at n0 n2 n3 n4 n5
    rw [Bool.or_eq_false_iff, decide_eq_false_iff_not] at n1
    have := n1.1
    omega
  have hfe : ∀ {v3 : Sv}, eBin ixM (eVar 6) (eBin subM (eBin modM (eBin ixM (eVar 1) (eC (.int 0))) (eC (.int 12))) (eC (.int 6))) (vAll (s0 x d v3 (.ro (.int b)) (.ro (.int c)) (.ro (lstI p)) .no)) = some (.int (at0 p (at0 d 0 % 12 - 6))) := fun {v3} =>
    binE (x := lstI p) (y := .int (at0 d 0 % 12 - 6)) rfl (binE (x := .int (at0 d 0 % 12)) (y := .int 6) (mod_at (d := d) (m := 12) rfl (by omega) (by omega) rfl (by omega)) rfl subM_int) (at_lst (by omega) (by omega))
  refine nx_if _ (cnd (d := d) rfl (by omega) (by omega) (by omega)) (fun _ => ?_) fun n6 => ?_
  · have hk : eBin modM (eBin divM (eBin ixM (eVar 1) (eC (.int 4))) (eC (.int 3))) (eBin addM (eCB lenM (aCons (eBin ixM (eVar 3) (eVar 4)) aNil)) (eC (.int 1))) (vAll (s0 x d (.ow (.lst (lstsI x))) (.ro (.int b)) (.ro (.int c)) (.ro (lstI p)) .no)) = some (.int (at0 d 4 / 3 % ((row x b).length + 1))) :=
      binE (x := .int (at0 d 4 / 3)) (y := .int ((row x b).length + 1)) (binE (x := .int (at0 d 4)) (y := .int 3) (binE (x := lstI d) (y := .int 4) rfl rfl (at_lst (by omega) (by omega))) rfl (divM_int (by decide) (by decide))) (binE (x := .int (row x b).length) (y := .int 1) (cb1E rdb (by show some _ = some _; rw [List.length_map])) rfl addM_int) (modM_int (by omega))
    have k0 := Int.emod_nonneg (at0 d 4 / 3) (show ((row x b).length + 1 : Int) ≠ 0 by omega)
    have k1 := Int.emod_lt_of_pos (at0 d 4 / 3) (show (0 : Int) < (row x b).length + 1 by omega)
    generalize at0 d 4 / 3 % ((row x b).length + 1 : Int) = kk at hk k0 k1
    refine ⟨_, insE (x := x) (b := b) (kk := kk) rfl rfl hb0 hb1 hk k0 (by omega) (by omega) hfe, fin_of (sm_set s40 ?_)⟩
    rw [List.length_append, List.length_cons]; rw [List.length_take, List.length_drop]
    omega
  · refine ⟨_, putL (x := x) (b := b) rfl (srt rdb hfe (by omega)) rfl hb0 hb1, fs ?_⟩
    rw [sort_len, List.length_append, List.length_singleton]
    omega
end
theorem cut_len {α : Type} (l : List α) (lo hi : Option Int) : ((l.drop (sIxP l.length 0 lo)).take (sIxP l.length l.length hi - sIxP l.length 0 lo)).length ≤ l.length := by
  rw [List.length_take, List.length_drop]; omega
theorem cut_mem {α : Type} {l : List α} {lo hi : Option Int} {a : α} (h : a ∈ (l.drop (sIxP l.length 0 lo)).take (sIxP l.length l.length hi - sIxP l.length 0 lo)) : a ∈ l := List.mem_of_mem_drop (List.mem_of_mem_take h)
theorem free_ok {d : List Int} (hd : d.length = 22) : ∃ d', f_l_free [lstI d] = .ok d' ∧ ∃ y, Sm 400 y ∧ d' = ordD y := by
  unfold f_l_free
  have hm : 0 ≤ at0 d 21 % 6 ∧ at0 d 21 % 6 < 6 := by omega
  have at1 : ∀ {ρ : DEnv} {e : EF} {i : Int}, eVar 0 ρ = some (lstI d) → e ρ = some (.int i) → 0 ≤ i → i < 22 → eBin ixM (eVar 0) e ρ = some (.int (at0 d i)) := fun h0 he h1 h2 => binE h0 he (at_lst h1 (by omega))
  refine run_ok rfl (rt_seq (fun ρ => ρ = [.ro (lstI d), .ow (.lst []), .no, .no]) ⟨_, rfl, rfl⟩ ?_)
  rintro _ rfl
  refine rt_seq (fun ρ => ∃ (y : List (List Int)) (v2 v3 : Sv), ρ = [.ro (lstI d), .ow (.lst (y.map tupI)), v2, v3] ∧ Sm 400 y) ?_ ?_
  · have hr : aCons (eBin modM (eBin ixM (eVar 0) (eC (.int 21))) (eC (.int 6))) aNil (vRd [.ro (lstI d), .ow (.lst []), .no, .no]) = some [.int ((at0 d 21 % 6).toNat : Nat)] := by
      unfold aCons
      rw [binE (g := modM) (x := .int (at0 d 21)) (y := .int 6) (at1 rfl rfl (by omega) (by omega)) rfl (modM_int (by omega)), Int.toNat_of_nonneg hm.1]
      rfl
    refine nx_rng (at0 d 21 % 6).toNat (fun i ρ => ∃ (y : List (List Int)) (v2 v3 : Sv), ρ = [.ro (lstI d), .ow (.lst (y.map tupI)), v2, v3] ∧ y.length ≤ i ∧ ∀ r ∈ y, r.length ≤ 400) hr (by omega) ⟨[], _, _, rfl, Nat.zero_le _, fun r hr => (nomatch hr)⟩ (fun i ρ hi hp => ?_) fun ρ ⟨y, v2, v3, e, h1, h2⟩ => ⟨y, v2, v3, e, by omega, h2⟩
    obtain ⟨y, v2, v3, rfl, h1, h2⟩ := hp
    refine ⟨[.ro (lstI d), .ow (.lst (y.map tupI)), .ro (.int i), v3], rfl, ?_⟩
    have e1 : ∀ {ρ : DEnv}, eVar 2 ρ = some (.int (i : Int)) → eBin addM (eBin mulM (eC (.int 3)) (eVar 2)) (eC (.int 1)) ρ = some (.int (3 * i + 1)) := fun h => binE (x := .int (3 * i)) (y := .int 1) (binE (x := .int 3) (y := .int i) rfl h (mulM_l (by decide))) rfl addM_int
    have e2 : ∀ {ρ : DEnv}, eVar 0 ρ = some (lstI d) → eVar 2 ρ = some (.int (i : Int)) → eBin modM (eBin ixM (eVar 0) (eBin addM (eC (.int 16)) (eVar 2))) (eC (.int 4)) ρ = some (.int (at0 d (16 + i) % 4)) := fun h0 h => binE (x := .int (at0 d (16 + i))) (y := .int 4) (at1 h0 (binE (x := .int 16) (y := .int i) rfl h addM_int) (by omega) (by omega)) rfl (modM_int (by omega))
    have e3 : eSl (eVar 0) (oE (eBin addM (eBin mulM (eC (.int 3)) (eVar 2)) (eC (.int 1)))) (oE (eBin addM (eBin addM (eBin mulM (eC (.int 3)) (eVar 2)) (eC (.int 1))) (eBin modM (eBin ixM (eVar 0) (eBin addM (eC (.int 16)) (eVar 2))) (eC (.int 4))))) (vRd [.ro (lstI d), .ow (.lst (y.map tupI)), .ro (.int i), v3]) = some (lstI ((d.drop (sIxP d.length 0 (some (3 * (i : Int) + 1)))).take (sIxP d.length d.length (some (3 * (i : Int) + 1 + at0 d (16 + i) % 4)) - sIxP d.length 0 (some (3 * (i : Int) + 1))))) := by
      refine slE (d := lstI d) (l := some (3 * (i : Int) + 1)) (h := some (3 * (i : Int) + 1 + at0 d (16 + i) % 4)) rfl (show (eBin addM _ _ _).bind _ = _ by rw [e1 rfl]; rfl) (show (eBin addM _ _ _).bind _ = _ by rw [binE (g := addM) (e1 rfl) (e2 rfl rfl) addM_int]; rfl) ?_
      show some (D.lst (cutP (d.map D.int) _ _)) = _
      rw [cut_map]
      rfl
    have lz := cut_len d (some (3 * (i : Int) + 1)) (some (3 * (i : Int) + 1 + at0 d (16 + i) % 4))
    generalize (d.drop (sIxP d.length 0 (some (3 * (i : Int) + 1)))).take (sIxP d.length d.length (some (3 * (i : Int) + 1 + at0 d (16 + i) % 4)) - sIxP d.length 0 (some (3 * (i : Int) + 1))) = z at e3 lz
    refine nx_seq (fun ρ => ρ = [.ro (lstI d), .ow (.lst (y.map tupI)), .ro (.int i), .ro (lstI z)]) ⟨_, setE _ e3 rfl, rfl⟩ ?_
    rintro _ rfl
    have hc : eCB tupleM (aCons (eComp 1 [] (iWalk (eVar 3)) (g1 0) tTrue (eBin subM (eBin modM (eVar 0) (eC (.int 7))) (eC (.int 1)))) aNil) (vRd [.ro (lstI d), .ow (.lst (y.map tupI)), .ro (.int i), .ro (lstI z)]) = some (tupI (z.map fun t => t % 7 - 1)) := by
      refine cb1E (x := .lst (z.map fun t => D.int (t % 7 - 1))) (compE (z.map D.int) rfl (by rw [List.length_map]; omega) (comp_mapE D.int (fun t => D.int (t % 7 - 1)) z fun t _ => ⟨_, rfl, binE (x := .int (t % 7)) (y := .int 1) (binE (x := .int t) (y := .int 7) rfl rfl (modM_int (by omega))) rfl subM_int⟩)) ?_
      show some (D.tup _) = some (D.tup _)
      rw [List.map_map]
      rfl
    refine ⟨_, appE (ds := y.map tupI) hc rfl (by rw [List.length_map]; omega), y ++ [z.map fun t => t % 7 - 1], _, _, by rw [List.map_append]; rfl, by rw [List.length_append, List.length_singleton]; omega, fun r hr => ?_⟩
    rcases List.mem_append.1 hr with hr | hr
    · exact h2 r hr
    · rw [List.mem_singleton.1 hr, List.length_map]; omega
  · rintro ρ ⟨y, v2, v3, rfl, hs⟩
    exact ⟨_, retE rfl, y, hs, rfl⟩
theorem rep_ok {n : Nat} (hn : n ≤ 400) : repTM (.tup [.tup []]) (.int n) = some (ordD (List.replicate n [])) := by
  unfold repTM
  show (if 1 * ((n : Int)).toNat ≤ szL ∧ ((n : Int)).natAbs < 9223372036854775808 then some (D.tup (List.replicate ((n : Int)).toNat [D.tup []]).flatten) else none) = _
  rw [if_pos ⟨by show _ ≤ 16777216; omega, by omega⟩, Int.toNat_natCast]
  unfold ordD
  rw [List.map_replicate]
  congr 2
  induction n with
  | zero => rfl
  | succ n ih => rw [List.replicate_succ, List.replicate_succ, List.flatten_cons, ih (by omega)]; rfl
theorem add_ord {x y : List (List Int)} (h : x.length + y.length ≤ 16777216) : addM (ordD x) (ordD y) = some (ordD (x ++ y)) := by
  unfold ordD
  rw [addM_tup (by rw [List.length_map, List.length_map]; exact h), List.map_append]
theorem long_ok {x : List (List Int)} {d : List Int} (sh : Sm 9 x) (hd : d.length = 22) : ∃ d', f_l_long [ordD x, lstI d] = .ok d' ∧ ∃ y, Sm 400 y ∧ d' = ordD y := by
  have hn := sh.1
  have s4 : ∀ r ∈ x, r.length ≤ 400 := fun r hr => Nat.le_trans (sh.2 r hr) (by omega)
  unfold f_l_long
  have hm : 0 ≤ (64 * at0 d 6 + at0 d 7) % 290 ∧ (64 * at0 d 6 + at0 d 7) % 290 < 290 := by omega
  have at1 : ∀ {ρ : DEnv} {i : Int}, eVar 1 ρ = some (lstI d) → 0 ≤ i → i < 22 → eBin ixM (eVar 1) (eC (.int i)) ρ = some (.int (at0 d i)) := fun h0 h1 h2 => binE h0 rfl (at_lst h1 (by omega))
  have e1 : eBin addM (eC (.int 11)) (eBin modM (eBin addM (eBin mulM (eC (.int 64)) (eBin ixM (eVar 1) (eC (.int 6)))) (eBin ixM (eVar 1) (eC (.int 7)))) (eC (.int 290))) (vRd [.ro (ordD x), .ro (lstI d), .no, .no]) = some (.int (11 + (64 * at0 d 6 + at0 d 7) % 290)) :=
    binE (x := .int 11) (y := .int ((64 * at0 d 6 + at0 d 7) % 290)) rfl (binE (x := .int (64 * at0 d 6 + at0 d 7)) (y := .int 290) (binE (x := .int (64 * at0 d 6)) (y := .int (at0 d 7)) (binE (x := .int 64) (y := .int (at0 d 6)) rfl (at1 rfl (by omega) (by omega)) (mulM_l (by decide))) (at1 rfl (by omega) (by omega)) addM_int) rfl (modM_int (by omega))) addM_int
  generalize em : 11 + (64 * at0 d 6 + at0 d 7) % 290 = m at e1
  have m0 : 11 ≤ m ∧ m ≤ 300 := by omega
  refine run_ok rfl (rt_seq (fun ρ => ρ = [.ro (ordD x), .ro (lstI d), .ro (.int m), .no]) ⟨_, setE _ e1 rfl, rfl⟩ ?_)
  rintro _ rfl
  have ht : tOr (tV (eBin eqM (eBin modM (eBin ixM (eVar 1) (eC (.int 8))) (eC (.int 2))) (eC (.int 1)))) (tV (eBin eqM (eCB lenM (aCons (eVar 0) aNil)) (eC (.int 0)))) (vAll [.ro (ordD x), .ro (lstI d), .ro (.int m), .no]) = some (decide (at0 d 8 % 2 = 1) || decide ((x.length : Int) = 0)) :=
    torE (tvE (binE (x := .int (at0 d 8 % 2)) (y := .int 1) (binE (x := .int (at0 d 8)) (y := .int 2) (at1 rfl (by omega) (by omega)) rfl (modM_int (by omega))) rfl eqM_int) rfl) (fun h => by rw [h, Bool.false_or]; exact tvE (binE (x := .int x.length) (y := .int 0) (cb1E rfl len_ord) rfl eqM_int) rfl) fun h => by rw [h]; rfl
  cases hc : (decide (at0 d 8 % 2 = 1) || decide ((x.length : Int) = 0)) with
  | true =>
    refine rt_seqR ⟨_, ifT (by rw [ht, hc]) (retE (binE (x := ordD x) (y := ordD (List.replicate (m - x.length).toNat [])) rfl (binE (x := .tup [.tup []]) (y := .int ((m - x.length).toNat : Nat)) rfl ?_ (rep_ok (by omega))) (add_ord (by rw [List.length_replicate]; omega)))), _, ⟨?_, fun r hr => ?_⟩, rfl⟩
    · rw [binE (g := subM) (x := .int m) (y := .int x.length) rfl (cb1E rfl len_ord) subM_int, Int.toNat_of_nonneg (by omega)]
    · rw [List.length_append, List.length_replicate]; omega
    · rcases List.mem_append.1 hr with hr | hr
      · exact s4 r hr
      · rw [(List.mem_replicate.1 hr).2]; exact Nat.zero_le _
  | false =>
    have hx0 : 0 < x.length := by
      rw [Bool.or_eq_false_iff, decide_eq_false_iff_not, decide_eq_false_iff_not] at hc
      omega
    refine rt_seq (fun ρ => ρ = [.ro (ordD x), .ro (lstI d), .ro (.int m), .no]) ⟨_, ifF (by rw [ht, hc]) rfl, rfl⟩ ?_
    rintro _ rfl
    refine rt_seq (fun ρ => ρ = [.ro (ordD x), .ro (lstI d), .ro (.int m), .ro (.int (at0 d 9 % x.length))]) ⟨_, setE _ (binE (x := .int (at0 d 9)) (y := .int x.length) (at1 rfl (by omega) (by omega)) (cb1E rfl len_ord) (modM_int (by omega))) rfl, rfl⟩ ?_
    rintro _ rfl
    generalize at0 d 9 % (x.length : Int) = a
    have et : eTup (aCons (eTupR (aCons (eVar 2) aNil)) aNil) (vAll [.ro (ordD x), .ro (lstI d), .ro (.int m), .ro (.int a)]) = some (ordD [rngP 0 m.toNat]) := by
      have : eTupR (aCons (eVar 2) aNil) (vAll [.ro (ordD x), .ro (lstI d), .ro (.int m), .ro (.int a)]) = some (tupI (rngP 0 m.toNat)) := by
        show (if m.natAbs ≤ 16777216 then some (D.tup ((rngP 0 m.toNat).map D.int)) else none) = _
        rw [if_pos (by omega)]
        rfl
      show ((eTupR (aCons (eVar 2) aNil) (vAll [.ro (ordD x), .ro (lstI d), .ro (.int m), .ro (.int a)])).bind _).bind _ = _
      rw [this]
      rfl
    have hs1 : eSl (eVar 0) oNo (oE (eVar 3)) (vAll [.ro (ordD x), .ro (lstI d), .ro (.int m), .ro (.int a)]) = some (ordD ((x.drop (sIxP x.length 0 none)).take (sIxP x.length x.length (some a) - sIxP x.length 0 none))) := by
      refine slE (d := ordD x) (l := none) (h := some a) rfl rfl rfl ?_
      show some (D.tup (cutP (x.map tupI) _ _)) = _
      rw [cut_map]
      rfl
    have hs2 : eSl (eVar 0) (oE (eBin addM (eVar 3) (eC (.int 1)))) oNo (vAll [.ro (ordD x), .ro (lstI d), .ro (.int m), .ro (.int a)]) = some (ordD ((x.drop (sIxP x.length 0 (some (a + 1)))).take (sIxP x.length x.length none - sIxP x.length 0 (some (a + 1))))) := by
      refine slE (d := ordD x) (l := some (a + 1)) (h := none) rfl rfl rfl ?_
      show some (D.tup (cutP (x.map tupI) _ _)) = _
      rw [cut_map]
      rfl
    have l1 := cut_len x none (some a)
    have l2 := cut_len x (some (a + 1)) none
    have c1 : ∀ r ∈ (x.drop (sIxP x.length 0 none)).take (sIxP x.length x.length (some a) - sIxP x.length 0 none), r ∈ x := fun r => cut_mem
    have c2 : ∀ r ∈ (x.drop (sIxP x.length 0 (some (a + 1)))).take (sIxP x.length x.length none - sIxP x.length 0 (some (a + 1))), r ∈ x := fun r => cut_mem
    generalize (x.drop (sIxP x.length 0 none)).take (sIxP x.length x.length (some a) - sIxP x.length 0 none) = z1 at hs1 l1 c1
    generalize (x.drop (sIxP x.length 0 (some (a + 1)))).take (sIxP x.length x.length none - sIxP x.length 0 (some (a + 1))) = z2 at hs2 l2 c2
    refine ⟨_, retE (binE (binE hs1 et (add_ord (by rw [List.length_singleton]; omega))) hs2 (add_ord (by rw [List.length_append, List.length_singleton]; omega))), _, ⟨?_, fun r hr => ?_⟩, rfl⟩
    · rw [List.length_append, List.length_append, List.length_singleton]; omega
    · rcases List.mem_append.1 hr with hr | hr
      · rcases List.mem_append.1 hr with hr | hr
        · exact s4 r (c1 r hr)
        · rw [List.mem_singleton.1 hr, rngP_length]; omega
      · exact s4 r (c2 r hr)
theorem rows_ok (ns : List Int) (k s : Int) : ∃ d, f_l_rows [.scr ns, .int k, .int s] = .ok d ∧ ∃ y, Sm 400 y ∧ d = ordD y := by
  unfold f_l_rows
  obtain ⟨c, ec⟩ := cell_ok ns k
  obtain ⟨h, hl, hp, eh⟩ := draws_ok c 22 s (by omega) (by omega)
  obtain ⟨o, eo, x, hx1, hx, rfl⟩ := drawn_ok ns (k + 1) 9 (s + 20011) (by omega) (by omega)
  have hl : h.length = 22 := hl
  have sh : Sm 9 x := ⟨by omega, short9 hx (by omega)⟩
  have up : ∀ {m : Nat} {y : List (List Int)}, m ≤ 400 → Sm m y → Sm 400 y := fun hm h => ⟨Nat.le_trans h.1 hm, fun r hr => Nat.le_trans (h.2 r hr) hm⟩
  have hv : ∀ {ρ : DEnv} {m q : Int}, eVar 3 ρ = some (lstI h) → 0 < m → tV (eBin eqM (eBin modM (eBin ixM (eVar 3) (eC (.int 0))) (eC (.int m))) (eC (.int q))) ρ = some (decide (at0 h 0 % m = q)) := fun e3 hm =>
    tvE (binE (x := .int _) (y := .int _) (binE (x := .int (at0 h 0)) (y := .int _) (binE (x := lstI h) (y := .int 0) e3 rfl (at_lst (by omega) (by omega))) rfl (modM_int hm)) rfl eqM_int) rfl
  refine run_ok rfl (rt_seq (fun ρ => ρ = [.ro (.scr ns), .ro (.int k), .ro (.int s), .ro (lstI h), .no]) ⟨_, setE _ (call3E (x := .int c) (y := .int 22) (z := .int s) (call2E (x := .scr ns) (y := .int k) rfl rfl ec) rfl rfl eh) rfl, rfl⟩ ?_)
  rintro _ rfl
  cases h1 : decide (at0 h 0 % 8 = 1) with
  | true =>
    obtain ⟨d', e, y, hs, rfl⟩ := free_ok (d := h) hl
    exact rt_seqR ⟨_, ifT (by rw [hv rfl (by omega), h1]) (retE (call1E (x := lstI h) rfl e)), y, hs, rfl⟩
  | false =>
    refine rt_seq (fun ρ => ρ = [.ro (.scr ns), .ro (.int k), .ro (.int s), .ro (lstI h), .no]) ⟨_, ifF (by rw [hv rfl (by omega), h1]) rfl, rfl⟩ ?_
    rintro _ rfl
    refine rt_seq (fun ρ => ρ = [.ro (.scr ns), .ro (.int k), .ro (.int s), .ro (lstI h), .ro (ordD x)]) ⟨_, setE _ (call4E (x := .scr ns) (y := .int (k + 1)) (z := .int 9) (w := .int (s + 20011)) rfl (binE (x := .int k) (y := .int 1) rfl rfl addM_int) rfl (binE (x := .int s) (y := .int 20011) rfl rfl addM_int) eo) rfl, rfl⟩ ?_
    rintro _ rfl
    cases h2 : decide (at0 h 0 % 4 = 0) with
    | true => exact rt_seqR ⟨_, ifT (by rw [hv rfl (by omega), h2]) (retE rfl), x, up (by omega) sh, rfl⟩
    | false =>
      refine rt_seq (fun ρ => ρ = [.ro (.scr ns), .ro (.int k), .ro (.int s), .ro (lstI h), .ro (ordD x)]) ⟨_, ifF (by rw [hv rfl (by omega), h2]) rfl, rfl⟩ ?_
      rintro _ rfl
      cases h3 : decide (at0 h 0 % 16 = 3) with
      | true =>
        obtain ⟨d', e, y, hs, rfl⟩ := long_ok (d := h) sh hl
        exact rt_seqR ⟨_, ifT (by rw [hv rfl (by omega), h3]) (retE (call2E (x := ordD x) (y := lstI h) rfl rfl e)), y, hs, rfl⟩
      | false =>
        refine rt_seq (fun ρ => ρ = [.ro (.scr ns), .ro (.int k), .ro (.int s), .ro (lstI h), .ro (ordD x)]) ⟨_, ifF (by rw [hv rfl (by omega), h3]) rfl, rfl⟩ ?_
        rintro _ rfl
        have hs : eSl (eVar 3) (oE (eC (.int 1))) (oE (eC (.int 6))) (vAll [.ro (.scr ns), .ro (.int k), .ro (.int s), .ro (lstI h), .ro (ordD x)]) = some (lstI ((h.drop 1).take 5)) := by
          refine slE (d := lstI h) (l := some 1) (h := some 6) rfl rfl rfl ?_
          show some (D.lst (cutP (h.map D.int) _ _)) = _
          rw [cut_map, hl]
          rfl
        have h5 : ((h.drop 1).take 5).length = 5 := by rw [List.length_take, List.length_drop]; omega
        have hp5 : ∀ i : Int, 0 ≤ at0 ((h.drop 1).take 5) i := fun i => by
          unfold at0
          cases e : ((h.drop 1).take 5)[i.toNat]? with
          | none => exact Int.le_refl _
          | some a => exact hp a (List.mem_of_mem_drop (List.mem_of_mem_take (List.mem_of_getElem? e)))
        obtain ⟨d', e, y, hs', rfl⟩ := changed_ok sh h5 hp5
        exact ⟨_, retE (call2E (x := ordD x) (y := lstI ((h.drop 1).take 5)) rfl hs e), y, up (by omega) hs', rfl⟩
theorem law_true (ns : List Int) (hns : ns.length ≤ 63) : f_law [.scr ns] = .ok (.bl true) := by
  obtain ⟨_, e1, x, hx, rfl⟩ := rows_ok ns 0 100003
  obtain ⟨_, e2, y, hy, rfl⟩ := rows_ok ns 3 300007
  have q : ∀ {z : List (List Int)}, Sm 400 z → f_is_order [ordD z] = .ok (.bl (tells z)) ∧ f_l_is [ordD z] = .ok (.bl (tells z)) := fun hz =>
    ⟨is_order_all (fun r hr => Nat.le_trans (hz.2 r hr) (by omega)) (Nat.le_trans hz.1 (by omega)), l_is_all (fun r hr => Nat.le_trans (hz.2 r hr) (by omega)) (Nat.le_trans hz.1 (by omega))⟩
  have sm : ∀ b : Bool, f_l_same 6 [.bl b, .bl b] = .ok (.bl true) := fun b => same_refl 6 (.bl b) trivial
  unfold f_law
  refine runE rfl (seqE [.ro (.scr ns), .ro (ordD x), .no] (setE _ (call3E rfl rfl rfl e1) rfl) (seqE [.ro (.scr ns), .ro (ordD x), .ro (ordD y)] (setE _ (call3E rfl rfl rfl e2) rfl) (seqE _ (ifF ?_ rfl) (retE ?_))))
  · refine torE (b := false) (tnE (tvE (call2E (call1E (x := ordD x) rfl (q hx).1) (call1E (x := ordD x) rfl (q hx).2) (sm _)) rfl) rfl) (fun _ => ?_) fun h => by cases h
    exact tnE (tvE (call2E (call1E (x := ordD y) rfl (q hy).1) (call1E (x := ordD y) rfl (q hy).2) (sm _)) rfl) rfl
  · exact call2E (call1E (x := ordD x) rfl (q hx).1) (call1E (x := ordD x) rfl (q hx).2) (sm _)
end K01
end
section
-- CHANGE: your row's module here, as the last of these rows
set_option Elab.async false
set_option linter.all false
set_option maxRecDepth 100000
namespace L2
open PySem PySem.Spec PyProof.Rows
noncomputable abbrev Key := Sum Int Str
noncomputable def keyIs : Key → Value → Bool
  | .inl k, v => Value.isInt k v
  | .inr x, v => Value.isStrOf x v
noncomputable def keyH (w : World) : Key → Int
  | .inl k => hashInt k
  | .inr x => hashStr w x
theorem keyIs_shape : ∀ {k : Key} {v : Value}, keyIs k v = true → (∃ i t, k = Sum.inl i ∧ v = Value.int i t) ∨ (∃ x t, k = Sum.inr x ∧ v = Value.str x t)
  | .inl i, v, h => by
    obtain ⟨t, e⟩ := Value.isInt_shape (k := i) (v := v) h
    exact .inl ⟨i, t, rfl, e⟩
  | .inr x, v, h => by
    obtain ⟨t, e⟩ := Value.isStrOf_shape (x := x) (v := v) h
    exact .inr ⟨x, t, rfl, e⟩
theorem keyIs_int (i : Int) (t : Tok) : keyIs (.inl i) (.int i t) = true := by simp [keyIs, Value.isInt]
theorem keyIs_str (x : Str) (t : Tok) : keyIs (.inr x) (.str x t) = true := by simp [keyIs, Value.isStrOf]
theorem key_ll (a b : Int) : decide ((Sum.inl a : Key) = Sum.inl b) = (a == b) := by
  by_cases e : a = b
  · subst e; simp
  · have h : ¬ (Sum.inl a : Key) = Sum.inl b := fun q => e (Sum.inl.inj q)
    rw [decide_eq_false h]
    exact (beq_eq_false_iff_ne.mpr e).symm
theorem key_rr (a b : Str) : decide ((Sum.inr a : Key) = Sum.inr b) = decide (a = b) := by
  by_cases e : a = b
  · subst e; simp
  · have h : ¬ (Sum.inr a : Key) = Sum.inr b := fun q => e (Sum.inr.inj q)
    rw [decide_eq_false h, decide_eq_false e]
theorem key_lr (a : Int) (b : Str) : decide ((Sum.inl a : Key) = Sum.inr b) = false := decide_eq_false (fun q => nomatch q)
theorem key_rl (a : Str) (b : Int) : decide ((Sum.inr a : Key) = Sum.inl b) = false := decide_eq_false (fun q => nomatch q)
noncomputable def mixKind (prog : Program) (w : World) : PySem.KeyKind prog w Key where
  is := keyIs
  hash := keyH w
  inj := fun v a b ha hb => by
    rcases keyIs_shape ha with ⟨i, t, rfl, rfl⟩ | ⟨x, t, rfl, rfl⟩
    · rcases keyIs_shape hb with ⟨j, u, rfl, e⟩ | ⟨y, u, rfl, e⟩
      · injection e with e1 _; rw [e1]
      · exact nomatch e
    · rcases keyIs_shape hb with ⟨j, u, rfl, e⟩ | ⟨y, u, rfl, e⟩
      · exact nomatch e
      · injection e with e1 _; rw [e1]
  byValue := fun k v h => by
    rcases keyIs_shape h with ⟨i, t, rfl, rfl⟩ | ⟨x, t, rfl, rfl⟩ <;> rfl
  pyHash := fun hv h => by
    rcases keyIs_shape hv with ⟨i, t, rfl, rfl⟩ | ⟨x, t, rfl, rfl⟩
    · exact wpAny_pyHash_int h
    · exact wpAny_pyHash_str h
  eqBool := fun hu hv h => by
    rcases keyIs_shape hu with ⟨i, t, rfl, rfl⟩ | ⟨x, t, rfl, rfl⟩
    · rcases keyIs_shape hv with ⟨j, u, rfl, rfl⟩ | ⟨y, u, rfl, rfl⟩
      · rw [key_ll] at h; exact wpAny_eqBool_int h
      · rw [key_lr] at h; exact SeqAt.EqAt.int_str i t y u _ _ _ _ h
    · rcases keyIs_shape hv with ⟨j, u, rfl, rfl⟩ | ⟨y, u, rfl, rfl⟩
      · rw [key_rl] at h; exact SeqAt.EqAt.str_int x t j u _ _ _ _ h
      · rw [key_rr] at h; exact wpAny_eqBool_str h
  «strs» := fun k x t v h => by
    rcases keyIs_shape h with ⟨i, u, rfl, e⟩ | ⟨y, u, rfl, e⟩
    · exact nomatch e
    · injection e with e1 _
      subst e1
      cases v <;> rfl
theorem mixKind_int (prog : Program) (w : World) (i : Int) (t : Tok) : (mixKind prog w).is (.inl i) (.int i t) = true := keyIs_int i t
theorem mixKind_str (prog : Program) (w : World) (x : Str) (t : Tok) : (mixKind prog w).is (.inr x) (.str x t) = true := keyIs_str x t
end L2
namespace L2
open PySem PySem.Spec PyProof.Rows
noncomputable abbrev N1 := List (Sum Key (List Key))
noncomputable abbrev KX := Sum Key N1
section
variable {prog : Program} {w : World} {K : Type} [dK : DecidableEq K] (knd : KeyKind prog w K)
noncomputable def ItemIs (h : Heap) : Sum K (List K) → Value → Prop
  | .inl k, v => knd.is k v = true
  | .inr ks, v => ∃ b, v = .ref b ∧ IsTupleKey knd h ks b
inductive NItems (h : Heap) : List (Sum K (List K)) → List Value → Prop
  | nil : NItems h [] []
  | cons {k : Sum K (List K)} {v : Value} {ks : List (Sum K (List K))} {vs : List Value} : ItemIs knd h k v → NItems h ks vs → NItems h (k :: ks) (v :: vs)
noncomputable def IsNest (h : Heap) (ks : List (Sum K (List K))) (a : Addr) : Prop := ∃ o items n, h.get? a = some o ∧ o.cls = .type "tuple" ∧ o.data = .seq items n ∧ NItems knd h ks items.toList
variable {knd}
theorem ItemIs.inj {h : Heap} {v : Value} : ∀ {x y : Sum K (List K)}, ItemIs knd h x v → ItemIs knd h y v → x = y
  | .inl a, .inl b, hx, hy => by rw [knd.inj _ _ _ hx hy]
  | .inl a, .inr b, hx, ⟨q, e, _⟩ => by subst e; exact absurd (knd.byValue _ _ hx) (by simp [carriedByValue])
  | .inr a, .inl b, ⟨q, e, _⟩, hy => by subst e; exact absurd (knd.byValue _ _ hy) (by simp [carriedByValue])
  | .inr a, .inr b, ⟨q, e, hx⟩, ⟨r, f, hy⟩ => by
    subst e
    injection f with f
    subst f
    rw [hx.inj hy]
theorem NItems.inj {h : Heap} {x : List (Sum K (List K))} {vs : List Value} (hx : NItems knd h x vs) : ∀ {y}, NItems knd h y vs → x = y := by
  induction hx with
  | nil => intro y hy; cases hy; rfl
  | cons h1 _ ih =>
    intro y hy
    cases hy with
    | cons h2 t2 => rw [h1.inj h2, ih t2]
theorem IsNest.typeIs {s : Shared} {ks : List (Sum K (List K))} {a : Addr} (x : IsNest knd s.heap ks a) : s.TypeIs (.ref a) "tuple" := let ⟨o, _, _, ho, hc, _⟩ := x; ⟨o, ho, hc⟩
theorem IsNest.inj {h : Heap} {a : Addr} {x y : List (Sum K (List K))} (hx : IsNest knd h x a) (hy : IsNest knd h y a) : x = y := by
  obtain ⟨o, its, n, ho, _, hd, hi⟩ := hx
  obtain ⟨o', its', n', ho', _, hd', hi'⟩ := hy
  rw [ho] at ho'
  cases ho'
  rw [hd] at hd'
  cases hd'
  exact hi.inj hi'
theorem IsNest.keeps {h h' : Heap} {ks : List (Sum K (List K))} {a d : Addr} {o : Obj} {es ep} (x : IsNest knd h ks a) (ho : h.get? d = some o) (hd : o.data = .dict es ep) (hs : Heap.SameBut d h h') : IsNest knd h' ks a := by
  obtain ⟨q, items, n, hq, hc, hi, his⟩ := x
  have ne : a ≠ d := fun z => by
    subst z
    rw [hq] at ho
    cases ho
    rw [hi] at hd
    cases hd
  refine ⟨q, items, n, (hs.2 a ne).trans hq, hc, hi, ?_⟩
  have go : ∀ {ks : List (Sum K (List K))} {vs : List Value}, NItems knd h ks vs → NItems knd h' ks vs := by
    intro ks vs t
    induction t with
    | nil => exact .nil
    | @cons k v ks vs h1 _ ih =>
      refine .cons ?_ ih
      cases k with
      | inl k => exact h1
      | inr k => obtain ⟨b, e, hb⟩ := h1; exact ⟨b, e, hb.keeps ho hd hs⟩
  exact go his
noncomputable def itemHash (knd : KeyKind prog w K) : Sum K (List K) → Int
  | .inl k => knd.hash k
  | .inr ks => tupleKeyHash knd ks
noncomputable def itemDraws : Sum K (List K) → Nat
  | .inl _ => 1
  | .inr ks => ks.length + 1
noncomputable def nestHash (knd : KeyKind prog w K) (ks : List (Sum K (List K))) : Int := reduceHash (Builtin.Tuple.tupleHashOf (ks.map (itemHash knd)))
noncomputable def nestDraws (ks : List (Sum K (List K))) : Nat := (ks.map itemDraws).sum + 1
variable {s : Shared} {A : Around} {E : Value → Shared → Prop}
theorem item_hash {k : Sum K (List K)} {v : Value} {Q : Int → Shared → Prop} (hu : A.units < cLine) (hk : ItemIs knd s.heap k v) (h : Q (itemHash knd k) { s with toks := s.toks + itemDraws k }) : wpAny (model prog w) A (pyHash v) Q E s := by
  cases k with
  | inl k => exact knd.pyHash hk h
  | inr k =>
    obtain ⟨b, e, hb⟩ := hk
    subst e
    exact wpAny_pyHash_tuple hu hb h
theorem isTuple_of {ks : List K} {b : Addr} {h : Heap} (x : IsTupleKey knd h ks b) : ∃ items, h.IsTuple b items := by
  obtain ⟨o, items, n, ho, hc, hd, _⟩ := x
  exact ⟨items, o, ho, hc, n, hd⟩
end
section
variable {P : Program} {w : World} {A : Around} {E : Value → Shared → Prop} {s : Shared}
theorem item_eq {x y : Sum Key (List Key)} {u v : Value} {Q : Bool → Shared → Prop} (hu : A.units < cLine) (hx : ItemIs (mixKind P w) s.heap x u) (hy : ItemIs (mixKind P w) s.heap y v) (h : Q (decide (x = y)) s) : wpAny (model P w) A (eqBool u v) Q E s := by
  cases x with
  | inl x =>
    cases y with
    | inl y =>
      refine (mixKind P w).eqBool hx hy ?_
      rw [show decide (x = y) = decide ((Sum.inl x : Sum Key (List Key)) = Sum.inl y) by simp]
      exact h
    | inr y =>
      obtain ⟨b, e, hb⟩ := hy
      subst e
      obtain ⟨its, hb⟩ := isTuple_of hb
      rw [show decide ((Sum.inl x : Sum Key (List Key)) = Sum.inr y) = false by simp] at h
      rcases keyIs_shape hx with ⟨i, t, rfl, rfl⟩ | ⟨i, t, rfl, rfl⟩
      · exact SeqAt.EqAt.int_tuple i t hb hu P w E Q h
      · exact SeqAt.EqAt.str_tuple i t hb hu P w E Q h
  | inr x =>
    obtain ⟨a, e, ha⟩ := hx
    subst e
    cases y with
    | inl y =>
      obtain ⟨its, ha⟩ := isTuple_of ha
      rw [show decide ((Sum.inr x : Sum Key (List Key)) = Sum.inl y) = false by simp] at h
      rcases keyIs_shape hy with ⟨i, t, rfl, rfl⟩ | ⟨i, t, rfl, rfl⟩
      · exact SeqAt.EqAt.tuple_int i t ha hu P w E Q h
      · exact SeqAt.EqAt.tuple_str i t ha hu P w E Q h
    | inr y =>
      obtain ⟨b, e, hb⟩ := hy
      subst e
      refine wpAny_eqBool_tuple hu ha hb ?_
      rw [show decide (x = y) = decide ((Sum.inr x : Sum Key (List Key)) = Sum.inr y) by simp]
      exact h
theorem hash_loop : ∀ (rest : List Value) (left : List (Sum Key (List Key))) (b : Array Int) (s : Shared) (R : Array Int → Shared → Prop), A.units < cLine → NItems (mixKind P w) s.heap left rest →
    (∀ b' : Array Int, b'.toList = b.toList ++ left.map (itemHash (mixKind P w)) → R b' { s with toks := s.toks + (left.map itemDraws).sum }) →
    wpAny (model P w) A (forIn rest b fun x r => do
      let r' ← pyHash x
      pure (ForInStep.yield (r.push r'))) R E s
  | [], left, b, s, R, hu, t, k => by
    cases t
    exact wpAny_pure (k b (by simp))
  | v :: rest, left, b, s, R, hu, t, k => by
    cases t with
    | @cons kk _ ks _ h1 h2 =>
      rw [List.forIn_cons]
      refine wpAny_bind (wpAny_bind (item_hash hu h1 (wpAny_pure ?_)))
      refine hash_loop rest ks _ _ _ hu h2 fun b' e => ?_
      have := k b' (by rw [e]; simp)
      simpa [Nat.add_assoc] using this
theorem nest_hash {ks : List (Sum Key (List Key))} {a : Addr} {Q : Int → Shared → Prop} (hu : A.units + 1 < cLine) (hk : IsNest (mixKind P w) s.heap ks a) (h : Q (nestHash (mixKind P w) ks) { s with toks := s.toks + nestDraws ks }) : wpAny (model P w) A (pyHash (.ref a)) Q E s := by
  have hT := hk.typeIs
  obtain ⟨o, its, n, ho, _, hd, hi⟩ := hk
  have sl := F.slot_tuple_hash
  unfold pyHash pyHashByItsType
  wp_walk using wpAny_cRoomFor_or (.inr (by omega)), wpAny_specialOf hT sl.lookup, (wpAny_callSpecialIfBoundUnlessNone?_slot hT sl (wpAny_call_entry sl hT F.entry_tuple_hash ?_ (F.args_tuple_hash_1 _)))
  rw [hd]
  refine wpAny_pure (wpAny_pure (wpAny_bind ?_))
  rw [← Array.forIn_toList]
  refine hash_loop its.toList ks #[] s _ hu hi fun b eb => ?_
  dsimp only
  rw [eb, List.nil_append]
  unfold nestHash reduceHash at h
  refine wpAny_ret_mkInt ?_
  have e2 : s.toks + (ks.map itemDraws).sum + 1 = s.toks + nestDraws ks := by unfold nestDraws; omega
  show wpAny (model P w) A (pyHashByItsType.reduced _) Q E { s with toks := s.toks + (ks.map itemDraws).sum + 1 }
  rw [e2]
  unfold pyHashByItsType.reduced
  generalize Builtin.Tuple.tupleHashOf (ks.map (itemHash (mixKind P w))) = z at h ⊢
  by_cases hz : (decide (-(2 ^ 63 : Int) ≤ z) && decide (z < 2 ^ 63)) = true
  · rw [if_pos hz] at h ⊢
    exact wpAny_pure h
  · rw [if_neg hz] at h ⊢
    refine wpAny_bind (wpAny_rule ?_); exact wpAny_pure h
theorem eq_loop : ∀ (x y : List (Sum Key (List Key))) (xs ys : List Value) (R : Option Fin × Unit → Shared → Prop), A.units < cLine → NItems (mixKind P w) s.heap x xs → NItems (mixKind P w) s.heap y ys →
    (x ≠ y → R (some (.done (.ret (.bool false))), ()) s) → ((x = y ↔ xs.length = ys.length) → R (none, ()) s) →
    wpAny (model P w) A (forIn (xs.zip ys) ((none, ()) : Option Fin × Unit) fun p _ => do
      let c ← eqBool p.1 p.2
      if (!c) = true then do
        let q ← ret (Value.bool false)
        pure (ForInStep.done (some q, ()))
      else pure (ForInStep.yield (none, ()))) R E s
  | [], y, xs, ys, R, hu, hx, hy, k1, k2 => by
    cases hx
    refine wpAny_pure (k2 ?_)
    cases hy <;> simp
  | kx :: x, [], xs, ys, R, hu, hx, hy, k1, k2 => by
    cases hx
    cases hy
    exact wpAny_pure (k2 (by simp))
  | kx :: x, ky :: y, xs, ys, R, hu, hx, hy, k1, k2 => by
    cases hx with
    | @cons _ u _ xs hx1 hx2 =>
      cases hy with
      | @cons _ v _ ys hy1 hy2 =>
        rw [List.zip_cons_cons, List.forIn_cons]
        refine wpAny_bind (wpAny_bind (item_eq hu hx1 hy1 ?_))
        by_cases hk : kx = ky
        · subst hk
          rw [decide_eq_true rfl, if_neg (by decide)]
          refine wpAny_pure (eq_loop x y xs ys R hu hx2 hy2 (fun n => k1 (by simpa using n)) fun e => k2 ?_)
          simpa using e
        · rw [decide_eq_false hk, if_pos (by decide)]
          exact wpAny_bind (wpAny_pure (wpAny_pure (wpAny_pure (k1 (by simp [hk])))))
theorem nest_eq {x y : List (Sum Key (List Key))} {a b : Addr} {Q : Bool → Shared → Prop} (hu : A.units + 1 < cLine) (hx : IsNest (mixKind P w) s.heap x a) (hy : IsNest (mixKind P w) s.heap y b) (h : Q (decide (x = y)) s) : wpAny (model P w) A (eqBool (.ref a) (.ref b)) Q E s := by
  have tx := hx.typeIs
  have ty := hy.typeIs
  have sl := F.slot_tuple_eq
  by_cases hab : a = b
  · subst hab
    rw [hx.inj hy, decide_eq_true rfl] at h
    exact SeqAt.EqAt.same _ P w E Q h
  · obtain ⟨oa, xs, na, hoa, _, hda, hia⟩ := hx
    obtain ⟨oc, ys, nb, hob, _, hdb, hib⟩ := hy
    unfold eqBool
    rw [if_neg (by simpa using hab)]
    have hu0 : A.units < cLine := by omega
    apply wpAny_holding; apply wpAny_bind
    refine (wpAny_richCompare_same_room (op := .Eq) tx ty sl (wpAny_call_entry sl tx F.entry_tuple_eq ?_ (F.args_tuple_eq_2 _ _)) hu0)
    unfold Builtin.«tuple.__eq__»
    wp_walk using wpAny_isInstance ty isSubtype_tuple_tuple, wpAny_tupleItemsOf hoa hda, wpAny_tupleItemsOf hob hdb
    refine eq_loop x y xs.toList ys.toList _ hu hia hib (fun n => ?_) fun e => ?_
    · rw [decide_eq_false n] at h
      exact wpAny_pure ⟨_, rfl, (fun z => nomatch z), wpAny_truthy_bool h⟩
    · refine wpAny_pure ⟨_, rfl, (fun z => nomatch z), ?_⟩
      have e2 : (xs.size == ys.size) = decide (x = y) := by
        by_cases q : x = y
        · rw [decide_eq_true q]; simpa using e.1 q
        · rw [decide_eq_false q]; simpa using fun z => q (e.2 z)
      show wpAny (model P w) A (truthOfDropped (.bool (xs.size == ys.size))) Q E s
      rw [e2]
      exact wpAny_truthy_bool h
theorem quiet_loop {d : Nat} : ∀ (vs : List Value) (R : Option Bool × Unit → Shared → Prop), (∀ v ∈ vs, ∀ Q : Bool → Shared → Prop, Q true s → wpAny (model P w) A (eqIsQuiet d v) Q E s) → R (none, ()) s →
    wpAny (model P w) A (forIn vs ((none, ()) : Option Bool × Unit) fun y _ => do
      let c ← eqIsQuiet d y
      if (!c) = true then pure (ForInStep.done (some false, ()))
      else pure (ForInStep.yield (none, ()))) R E s
  | [], R, hq, k => wpAny_pure k
  | v :: vs, R, hq, k => by
    rw [List.forIn_cons]
    refine wpAny_bind (wpAny_bind (hq v List.mem_cons_self _ ?_))
    rw [if_neg (by decide)]
    exact wpAny_pure (quiet_loop vs R (fun u hu => hq u (List.mem_cons_of_mem _ hu)) k)
theorem quiet_seq {d : Nat} {a : Addr} {o : Obj} {xs : Array Value} {n : Nat} {Q : Bool → Shared → Prop} (tx : s.TypeIs (Value.ref a) "tuple") (ho : s.heap.get? a = some o) (hd : o.data = .seq xs n) (hq : ∀ v ∈ xs.toList, ∀ Q : Bool → Shared → Prop, Q true s → wpAny (model P w) A (eqIsQuiet d v) Q E s) (h : Q true s) :
    wpAny (model P w) A (eqIsQuiet (d + 1) (.ref a)) Q E s := by
  have sl := F.slot_tuple_eq
  unfold eqIsQuiet
  refine wpAny_bind (wpAny_specialOf tx sl.lookup ?_)
  show wpAny (model P w) A (isInstance (.ref a) (.type "tuple") >>= _) _ _ s
  refine wpAny_bind (wpAny_isInstance tx isSubtype_tuple_tuple ?_)
  rw [if_neg (by decide)]
  dsimp only
  refine wpAny_bind (wpAny_seqItems ho hd (wpAny_bind ?_))
  show wpAny _ _ (forIn xs _ _) _ _ s
  rw [← Array.forIn_toList]
  exact quiet_loop xs.toList _ hq (wpAny_pure h)
theorem nest_quiet {x : List (Sum Key (List Key))} {a : Addr} {Q : Bool → Shared → Prop} (hx : IsNest (mixKind P w) s.heap x a) (h : Q true s) : wpAny (model P w) A (eqIsQuiet 8 (.ref a)) Q E s := by
  have tx := hx.typeIs
  obtain ⟨o, xs, n, ho, _, hd, hi⟩ := hx
  refine quiet_seq (d := 7) tx ho hd ?_ h
  have go : ∀ {ks : List (Sum Key (List Key))} {vs : List Value}, NItems (mixKind P w) s.heap ks vs → ∀ v ∈ vs, ∀ Q : Bool → Shared → Prop, Q true s → wpAny (model P w) A (eqIsQuiet 7 v) Q E s := by
    intro ks vs t
    induction t with
    | nil => intro v hv; cases hv
    | @cons k v ks vs h1 _ ih =>
      intro u hu Q k0
      rcases List.mem_cons.1 hu with e | hu
      · subst e
        cases k with
        | inl k =>
          rw [eqIsQuiet_byValue _ ((mixKind P w).byValue _ _ h1)]
          exact wpAny_pure k0
        | inr k =>
          obtain ⟨b, e, hb⟩ := h1
          subst e
          have tb := hb.typeIs
          obtain ⟨o', xs', n', ho', _, hd', hi'⟩ := hb
          refine quiet_seq (d := 6) tb ho' hd' (fun v' hv' Q' k' => ?_) k0
          rw [eqIsQuiet_byValue _ (hi'.byValue v' hv')]
          exact wpAny_pure k'
      · exact ih u hu Q k0
  exact go hi
noncomputable def nestKind (P : Program) (w : World) : HeapKind P w (List (Sum Key (List Key))) where
  is := IsNest (mixKind P w)
  hash := nestHash (mixKind P w)
  draws := nestDraws
  room := fun A => A.units + 1 < cLine
  inj := fun hx hy => hx.inj hy
  keeps := fun x ho he hs => x.keeps ho he hs
  pyHash := fun hu hk h => nest_hash hu hk h
  eqBool := fun hu hx hy h => nest_eq hu hx hy h
  quiet := fun hk h => nest_quiet hk h
end
end L2
namespace L2
open PySem PySem.Spec PyProof.Rows
inductive V where
  | non | bl (b : Bool) | int (i : Int) | str (x : Str) | byt (b : Array UInt8) | flt (b : UInt64) | ref (a : Addr) | ty (n : String)
  deriving DecidableEq
noncomputable def RelV : V → Value → Prop
  | .non, u => u = Value.none
  | .bl b, u => u = Value.bool b
  | .int i, u => ∃ t, u = Value.int i t
  | .str x, u => ∃ t, u = Value.str x t
  | .byt b, u => ∃ t, u = Value.bytes b t
  | .flt b, u => ∃ t, u = Value.float b t
  | .ref a, u => u = Value.ref a
  | .ty n, u => u = Value.type n
noncomputable abbrev Vals : List V → List Value → Prop := Paired RelV
theorem Vals.length {xs : List V} {us : List Value} (r : Vals xs us) : xs.length = us.length := Paired.length r
theorem Vals.get : ∀ {xs : List V} {us : List Value} {i : Nat} {x : V}, Vals xs us → xs[i]? = some x → ∃ u, us[i]? = some u ∧ RelV x u
  | _, _, _, _, .nil, e => by simp at e
  | _, _, 0, _, .cons r _, e => by simp at e; subst e; exact ⟨_, rfl, r⟩
  | _, _, i + 1, x, .cons _ t, e => by
    obtain ⟨u, h1, h2⟩ := Vals.get (i := i) (x := x) t (by simpa using e)
    exact ⟨u, by simpa using h1, h2⟩
theorem Vals.set {x : V} {u : Value} (r : RelV x u) : ∀ {xs : List V} {us : List Value} (i : Nat), Vals xs us → Vals (xs.set i x) (us.set i u)
  | _, _, _, .nil => .nil
  | _, _, 0, .cons _ t => .cons r t
  | _, _, i + 1, .cons q t => .cons q (Vals.set r i t)
theorem Vals.append : ∀ {xs ys : List V} {us ws : List Value}, Vals xs us → Vals ys ws → Vals (xs ++ ys) (us ++ ws)
  | _, _, _, _, .nil, s => s
  | _, _, _, _, .cons r t, s => .cons r (Vals.append t s)
theorem Vals.take : ∀ {xs : List V} {us : List Value} (n : Nat), Vals xs us → Vals (xs.take n) (us.take n)
  | _, _, 0, _ => .nil
  | _, _, _ + 1, .nil => .nil
  | _, _, n + 1, .cons r t => .cons r (Vals.take n t)
theorem Vals.drop : ∀ {xs : List V} {us : List Value} (n : Nat), Vals xs us → Vals (xs.drop n) (us.drop n)
  | _, _, 0, r => r
  | _, _, _ + 1, .nil => .nil
  | _, _, n + 1, .cons _ t => Vals.drop n t
noncomputable def RelO : Option V → Option Value → Prop
  | some v, some u => RelV v u
  | none, none => True
  | _, _ => False
noncomputable def KV {κ : Type} : List (κ × V) → List (κ × Value) → Prop := Paired fun (p : κ × V) (q : κ × Value) => p.1 = q.1 ∧ RelV p.2 q.2
noncomputable def kV : Key → V
  | .inl i => .int i
  | .inr x => .str x
inductive HO where
  | lst (xs : List V)
  | tup (xs : List V)
  | dK (kvs : List (Key × V)) | dT (kvs : List (List Key × V))
  | dX (o : Obj) (kvs : List (KX × V × V))
  | set (S : Int → Bool) (n : Nat)
  | ins (C dx : Addr) (fs : List (Str × V))
  | own (x : Addr)
  | xd (fs : List (Str × V))
  | met (f x : Addr)
  | rng (lo hi : Int)
  | frz (o : Obj) (u : HO)
  | tbl (q : Str)
  | ext (φ : Heap → Prop)
noncomputable abbrev Hp := Addr → Option HO
noncomputable def upd (H : Hp) (a : Addr) (o : HO) : Hp := fun b => if b = a then some o else H b
theorem upd_same {H : Hp} {a : Addr} {o : HO} : upd H a o a = some o := by unfold upd; rw [if_pos rfl]
theorem upd_ne {H : Hp} {a b : Addr} {o : HO} (h : b ≠ a) : upd H a o b = H b := by unfold upd; rw [if_neg h]
theorem ne_of {H : Hp} {a b : Addr} {o u : HO} (h : H a = some o) (h' : H b = some u) (d : o ≠ u) : a ≠ b := by
  intro e; subst e; rw [h] at h'; exact d (Option.some.inj h')
theorem ne_of_none {H : Hp} {a b : Addr} {o : HO} (h : H a = some o) (h' : H b = none) : a ≠ b := by
  intro e; subst e; rw [h] at h'; cases h'
noncomputable def ItemAt (H : Hp) : Sum Key (List Key) → V → Prop
  | .inl k, v => v = kV k
  | .inr ks, v => ∃ b, v = .ref b ∧ H b = some (.tup (ks.map kV))
noncomputable def NestAt (H : Hp) (ks : N1) (a : Addr) : Prop := ∃ vs, H a = some (.tup vs) ∧ Paired (ItemAt H) ks vs
noncomputable def DXOk (P : Program) (w : World) (H : Hp) (o : Obj) (kvs : List (KX × V × V)) : Prop := o.ExactDict ∧ ∃ es ep, o.data = .dict es ep ∧
  ((∃ vs : List (Key × Value), Paired (fun (p : KX × V × V) (q : Key × Value) => p.1 = .inl q.1 ∧ p.2.1 = kV q.1 ∧ RelV p.2.2 q.2) kvs vs ∧ KeysOf (mixKind P w) es ∧ Pairs (mixKind P w) es.toList vs ∧ (vs.map (·.1)).Nodup) ∨
   ∃ xs : List (N1 × Addr × Value), Paired (fun (p : KX × V × V) (q : N1 × Addr × Value) => p.1 = .inr q.1 ∧ p.2.1 = .ref q.2.1 ∧ NestAt H q.1 q.2.1 ∧ RelV p.2.2 q.2.2) kvs xs ∧ es.toList = xs.map (entryOfKey (nestKind P w)) ∧ (xs.map (·.1)).Nodup)
theorem Paired.mapQ {α β : Type} {F G : α → β → Prop} : ∀ {l₁ : List α} {l₂ : List β}, Paired F l₁ l₂ → (∀ a b, F a b → G a b) → Paired G l₁ l₂
  | _, _, .nil, _ => .nil
  | _, _, .cons r t, f => .cons (f _ _ r) (Paired.mapQ t f)
theorem NestAt.stay {H H' : Hp} {ks : N1} {a : Addr} (h : NestAt H ks a) (ht : ∀ b xs, H b = some (.tup xs) → H' b = some (.tup xs)) : NestAt H' ks a := by
  obtain ⟨vs, e, r⟩ := h
  refine ⟨vs, ht _ _ e, Paired.mapQ r fun k v q => ?_⟩
  cases k with
  | inl k => exact q
  | inr k => obtain ⟨b, e, q⟩ := q; exact ⟨b, e, ht _ _ q⟩
theorem DXOk.stay {P : Program} {w : World} {H H' : Hp} {o : Obj} {kvs : List (KX × V × V)} (h : DXOk P w H o kvs) (ht : ∀ b xs, H b = some (.tup xs) → H' b = some (.tup xs)) : DXOk P w H' o kvs := by
  obtain ⟨x, es, ep, e, h⟩ := h
  refine ⟨x, es, ep, e, ?_⟩
  rcases h with h | ⟨xs, r, h1, h2⟩
  · exact .inl h
  · exact .inr ⟨xs, Paired.mapQ r fun p q z => ⟨z.1, z.2.1, z.2.2.1.stay ht, z.2.2.2⟩, h1, h2⟩
noncomputable def NoD (h : Heap) (a : Addr) : Prop := ∀ o, h.get? a = some o → o.dict = none
theorem NoD.at {h h' : Heap} {a : Addr} {o : Obj} (n : NoD h a) (e : h.get? a = some o) (e' : h'.get? a = some o) : NoD h' a := fun u q => by rw [e'] at q; cases q; exact n _ e
theorem NoD.new (h : Heap) (its : Array Value) {n : Nat} : NoD (h.push { cls := .type "tuple", data := .seq its n }) h.objs.size := fun u q => by
  rw [Heap.get?_push_size h rfl] at q; cases q; rfl
theorem NoD.is {h : Heap} {a : Addr} {o : Obj} (e : h.get? a = some o) (d : o.dict = none) : NoD h a := fun u q => by rw [e] at q; cases q; exact d
noncomputable abbrev codeHO (oc : Obj) : HO := .frz oc (.ext fun _ => True)
noncomputable def TblOk (H : Hp) (q : Str) (ps : Array Value) : Prop := TriplesOk ps.toList ∧
  ∀ pos cv, codeAmong pos ps.toList = some cv → ∃ c oc vs t, cv = .ref c ∧ H c = some (codeHO oc) ∧ oc.data = .fields vs ∧ vs[1]? = some (.str q t)
theorem TblOk.stay {H H' : Hp} {q : Str} {ps : Array Value} (h : TblOk H q ps) (hf : ∀ b o u, H b = some (.frz o u) → H' b = some (.frz o u)) : TblOk H' q ps :=
  ⟨h.1, fun pos cv e => let ⟨c, oc, vs, t, e1, e2, e3⟩ := h.2 pos cv e; ⟨c, oc, vs, t, e1, hf _ _ _ e2, e3⟩⟩
section
variable (P : Program) (w : World)
noncomputable def ObjOk (H : Hp) (h : Heap) (a : Addr) : HO → Prop
  | .lst xs => xs.length ≤ sizeLine ∧ ∃ (its : List Value) (n : Nat), Vals xs its ∧ h.get? a = some { cls := .type "list", data := .seq its.toArray n }
  | .tup xs => xs.length ≤ sizeLine ∧ ∃ its : List Value, Vals xs its ∧ IsTup h a its.toArray ∧ NoD h a
  | .dK kvs => kvs.length ≤ sizeLine ∧ (a == sysModules) = false ∧ ∃ vs, KV kvs vs ∧ h.DictOf (mixKind P w) a vs
  | .dT kvs => kvs.length ≤ sizeLine ∧ (a == sysModules) = false ∧ ∃ xs : List (List Key × Addr × Value),
      Paired (fun (p : List Key × V) (q : List Key × Addr × Value) => p.1 = q.1 ∧ H q.2.1 = some (.tup (p.1.map kV)) ∧ RelV p.2 q.2.2) kvs xs ∧
      ∃ o es ep, h.get? a = some o ∧ o.ExactDict ∧ o.data = .dict es ep ∧ es.toList = xs.map (entryOfKey (tupleKind (mixKind P w))) ∧ (xs.map (·.1)).Nodup
  | .dX o kvs => kvs.length ≤ sizeLine ∧ (a == sysModules) = false ∧ h.get? a = some o ∧ DXOk P w H o kvs
  | .set S n => h.SetOf (intKind P w) a S n
  | .ins C dx fs => H dx = some (.own a) ∧ fs.length ≤ 1000 ∧ dx ≠ a ∧ h.get? a = some (PySem.W.instObj C dx) ∧
      ∃ mA, h.Ns1 dx mA ∧ (∀ f, RelO (fs.lookup f) (mA f)) ∧ PySem.Within mA (fs.map (·.1))
  | .own _ => ∃ o, h.get? a = some o
  | .xd fs => ∃ mA, h.Ns1 a mA ∧ ∀ f, RelO (fs.lookup f) (mA f)
  | .rng lo hi => ∃ t u v, h.get? a = some { cls := .type "range", data := .fields #[.int lo t, .int hi u, .int 1 v] }
  | .frz o u => h.get? a = some o ∧ ObjOk H h a u
  | .tbl q => ∃ ps : Array Value, h.get? a = some { cls := .none, data := .fields ps } ∧ TblOk H q ps
  | .met f x => h.get? a = some (PySem.W.methodObj (.ref f) (.ref x))
  | .ext φ => φ h ∧ (∃ o, h.get? a = some o) ∧ ∀ h1 h2 : Heap, φ h1 → (∀ o, h1.get? a = some o → h2.get? a = some o) → φ h2
noncomputable def HOk (H : Hp) (h : Heap) : Prop := ∀ a o, H a = some o → ObjOk P w H h a o
end
section
variable {P : Program} {w : World} {H H' : Hp} {h h' : Heap} {a : Addr} {o : HO}
theorem ObjOk.lt (x : ObjOk P w H h a o) : a < h.objs.size := by
  cases o with
  | lst xs => obtain ⟨_, _, _, _, e⟩ := x; exact Heap.lt_size e
  | tup xs => obtain ⟨_, _, _, p, _⟩ := x; exact p.lt
  | dK kvs => obtain ⟨_, _, _, _, o, _, _, e, _⟩ := x; exact Heap.lt_size e
  | dT kvs => obtain ⟨_, _, _, _, o, _, _, e, _⟩ := x; exact Heap.lt_size e
  | dX ob kvs => obtain ⟨_, _, e, _⟩ := x; exact Heap.lt_size e
  | set S n => obtain ⟨o, _, _, _, e, _⟩ := x; exact Heap.lt_size e
  | ins C dx fs => obtain ⟨_, _, _, e, _⟩ := x; exact Heap.lt_size e
  | own y => obtain ⟨_, e⟩ := x; exact Heap.lt_size e
  | xd fs => obtain ⟨_, ⟨_, _, _, e, _⟩, _⟩ := x; exact Heap.lt_size e
  | rng lo hi => obtain ⟨_, _, _, e⟩ := x; exact Heap.lt_size e
  | frz ob u => obtain ⟨e, _⟩ := x; exact Heap.lt_size e
  | tbl q => obtain ⟨ps, e, _⟩ := x; exact Heap.lt_size e
  | met f y => exact Heap.lt_size (show h.get? a = some _ from x)
  | ext φ => obtain ⟨_, ⟨_, e⟩, _⟩ := x; exact Heap.lt_size e
theorem Paired.mapP {α β : Type} {F G : α → β → Prop} : ∀ {l₁ : List α} {l₂ : List β}, Paired F l₁ l₂ → (∀ a b, F a b → G a b) → Paired G l₁ l₂
  | _, _, .nil, _ => .nil
  | _, _, .cons r t, f => .cons (f _ _ r) (Paired.mapP t f)
theorem ObjOk.stay (x : ObjOk P w H h a o) (k : ∀ b u, (b = a ∨ H b = some (.own a)) → h.get? b = some u → h'.get? b = some u)
    (ho : ∀ b, H b = some (.own a) → H' b = some (.own a)) (ht : ∀ b xs, H b = some (.tup xs) → H' b = some (.tup xs)) (hf : ∀ b o u, H b = some (.frz o u) → H' b = some (.frz o u) := by exact fun _ _ _ q => q) : ObjOk P w H' h' a o := by
  induction o with
  | lst xs => obtain ⟨z, its, n, r, e⟩ := x; exact ⟨z, its, n, r, k _ _ (.inl rfl) e⟩
  | tup xs => obtain ⟨z, its, r, ⟨ob, e, c⟩, nd⟩ := x; exact ⟨z, its, r, ⟨ob, k _ _ (.inl rfl) e, c⟩, nd.at e (k _ _ (.inl rfl) e)⟩
  | dK kvs => obtain ⟨z, y, vs, r, ob, es, ep, e, c⟩ := x; exact ⟨z, y, vs, r, ob, es, ep, k _ _ (.inl rfl) e, c⟩
  | dT kvs =>
    obtain ⟨z, y, xs, r, ob, es, ep, e, c⟩ := x
    exact ⟨z, y, xs, Paired.mapP r fun p q z => ⟨z.1, ht _ _ z.2.1, z.2.2⟩, ob, es, ep, k _ _ (.inl rfl) e, c⟩
  | dX ob kvs => obtain ⟨z, y, e, c⟩ := x; exact ⟨z, y, k _ _ (.inl rfl) e, c.stay ht⟩
  | set S n => obtain ⟨ob, es, ep, t, e, c⟩ := x; exact ⟨ob, es, ep, t, k _ _ (.inl rfl) e, c⟩
  | ins C dx fs =>
    obtain ⟨d, z, ne, e, mA, ⟨od, es, ep, e2, c⟩, r⟩ := x
    exact ⟨ho _ d, z, ne, k _ _ (.inl rfl) e, mA, ⟨od, es, ep, k _ _ (.inr d) e2, c⟩, r⟩
  | own y => obtain ⟨ob, e⟩ := x; exact ⟨ob, k _ _ (.inl rfl) e⟩
  | xd fs => obtain ⟨mA, ⟨od, es, ep, e, c⟩, r⟩ := x; exact ⟨mA, ⟨od, es, ep, k _ _ (.inl rfl) e, c⟩, r⟩
  | rng lo hi => obtain ⟨t, u, v, e⟩ := x; exact ⟨t, u, v, k _ _ (.inl rfl) e⟩
  | frz ob u ih => obtain ⟨e, q⟩ := x; exact ⟨k _ _ (.inl rfl) e, ih q⟩
  | tbl q => obtain ⟨ps, e, r⟩ := x; exact ⟨ps, k a _ (.inl rfl) e, r.stay hf⟩
  | met f y =>
    have e : h.get? a = some (PySem.W.methodObj (.ref f) (.ref y)) := x
    show h'.get? a = some (PySem.W.methodObj (.ref f) (.ref y))
    exact k a _ (.inl rfl) e
  | ext φ => obtain ⟨p, ⟨o, e⟩, st⟩ := x; exact ⟨st _ _ p fun o q => k _ _ (.inl rfl) q, ⟨o, k _ _ (.inl rfl) e⟩, st⟩
theorem HOk.lt (x : HOk P w H h) (e : H a = some o) : a < h.objs.size := (x a o e).lt
theorem HOk.fresh (x : HOk P w H h) (e : h.objs.size ≤ a) : H a = none := by
  cases q : H a with
  | none => rfl
  | some u => exact absurd (Nat.lt_of_lt_of_le (x.lt q) e) (Nat.lt_irrefl _)
theorem HOk.kept (x : HOk P w H h) (k : ∀ b u, h.get? b = some u → h'.get? b = some u) : HOk P w H h' := fun a o e =>
  (x a o e).stay (fun b u _ q => k b u q) (fun _ q => q) fun _ _ q => q
theorem HOk.laid (x : HOk P w H h) (k : ∀ b u, h.get? b = some u → h'.get? b = some u) (hp : h.objs.size ≤ a) (new : ObjOk P w (upd H a o) h' a o) : HOk P w (upd H a o) h' := fun b u e => by
  have hn := x.fresh hp
  by_cases hb : b = a
  · subst hb; rw [upd_same] at e; cases e; exact new
  · rw [upd_ne hb] at e
    exact (x b u e).stay (fun c v _ q => k c v q) (fun c q => by rw [upd_ne (ne_of_none q hn)]; exact q) (fun c xs q => by rw [upd_ne (ne_of_none q hn)]; exact q) fun c o u q => by rw [upd_ne (ne_of_none q hn)]; exact q
end
noncomputable def Rd (H : Hp) (a : Addr) (u : HO) : Prop := H a = some u ∨ ∃ o, H a = some (.frz o u)
theorem Rd.ok {P : Program} {w : World} {H : Hp} {h : Heap} {a : Addr} {u : HO} (r : Rd H a u) (x : HOk P w H h) : ObjOk P w H h a u := by
  rcases r with r | ⟨o, r⟩
  · exact x a u r
  · obtain ⟨_, q⟩ := x a _ r
    exact q
noncomputable def Mut : Option HO → Prop
  | some (.lst _) => True
  | some (.dK _) => True
  | some (.dT _) => True
  | some (.dX _ _) => True
  | some (.set _ _) => True
  | some (.ins _ _ _) => True
  | some (.ext _) => True
  | _ => False
section
variable {P : Program} {w : World} {H : Hp} {h h' : Heap} {x e : Addr} {o' : HO}
theorem HOk.write (ok : HOk P w H h) (mu : Mut (H x)) (he : e = x ∨ H e = some (.own x)) (k : ∀ b u, b ≠ e → h.get? b = some u → h'.get? b = some u) (heo : ∃ u, h'.get? e = some u)
    (new : ObjOk P w (upd H x o') h' x o') : HOk P w (upd H x o') h' := fun b u q => by
  have nown : ∀ c y, H c = some (.own y) → c ≠ x := fun c y r z => by subst z; rw [r] at mu; exact mu
  have ntup : ∀ c xs, H c = some (.tup xs) → c ≠ x := fun c xs r z => by subst z; rw [r] at mu; exact mu
  by_cases hb : b = x
  · subst hb; rw [upd_same] at q; cases q; exact new
  · rw [upd_ne hb] at q
    by_cases hbe : b = e
    · have q' : H b = some (.own x) := by
        rcases he with z | z
        · exact absurd (hbe.trans z) hb
        · rw [hbe]; exact z
      rw [q] at q'; cases q'
      obtain ⟨v, hv⟩ := heo
      exact ⟨v, by rw [hbe]; exact hv⟩
    · refine (ok b u q).stay (fun c v hc r => k c v ?_ r) (fun c r => by rw [upd_ne (nown c b r)]; exact r) (fun c xs r => by rw [upd_ne (ntup c xs r)]; exact r) fun c o u r => by rw [upd_ne fun z => by subst z; rw [r] at mu; exact mu]; exact r
      rcases hc with rfl | hc
      · exact hbe
      · rintro rfl
        rcases he with z | z
        · exact nown c b hc z
        · rw [hc] at z; cases z; exact hb rfl
end
structure Un (fs ex : List Addr) (H H' : Hp) (h h' : Heap) : Prop where
  keep : ∀ b o, h.get? b = some o → H b = none → b ∉ fs → b ∉ ex → h'.get? b = some o
  slot : ∀ b o, h.get? b = some o → H b = none → b ∈ fs → b ∉ ex → ∃ sl, h'.get? b = some { o with slots := sl }
  free : ∀ b o, h.get? b = some o → H b = none → b ∉ ex → H' b = none
  there : ∀ b o, h.get? b = some o → b ∉ ex → ∃ o', h'.get? b = some o'
  tups : ∀ b xs, H b = some (.tup xs) → H' b = some (.tup xs)
  frzs : ∀ b o u, H b = some (.frz o u) → H' b = some (.frz o u)
  tbls : ∀ b q, H b = some (.tbl q) → H' b = some (.tbl q)
section
variable {fs fs' ex ex' : List Addr} {H H1 H2 : Hp} {h h1 h2 h' : Heap} {a x e : Addr} {o : HO}
theorem Un.any (u : Un fs ex H H1 h h1) {b : Addr} {ob : Obj} (q : h.get? b = some ob) (n : H b = none) (hx : b ∉ ex) : ∃ sl, h1.get? b = some { ob with slots := sl } := by
  by_cases hb : b ∈ fs
  · exact u.slot b ob q n hb hx
  · exact ⟨ob.slots, u.keep b ob q n hb hx⟩
theorem Un.trans (a : Un fs ex H H1 h h1) (b : Un fs ex H1 H2 h1 h2) : Un fs ex H H2 h h2 where
  keep := fun c ob q n hc hx => b.keep c ob (a.keep c ob q n hc hx) (a.free c ob q n hx) hc hx
  slot := fun c ob q n hc hx => by
    obtain ⟨sl, e1⟩ := a.slot c ob q n hc hx
    obtain ⟨sl', e2⟩ := b.slot c _ e1 (a.free c ob q n hx) hc hx
    exact ⟨sl', e2⟩
  free := fun c ob q n hx => by
    obtain ⟨o', e1⟩ := a.there c ob q hx
    exact b.free c o' e1 (a.free c ob q n hx) hx
  there := fun c ob q hx => by
    obtain ⟨o', e1⟩ := a.there c ob q hx
    exact b.there c o' e1 hx
  tups := fun c xs q => b.tups c xs (a.tups c xs q)
  frzs := fun c ob xs q => b.frzs c ob xs (a.frzs c ob xs q)
  tbls := fun c ps q => b.tbls c ps (a.tbls c ps q)
theorem Un.kept (k : ∀ b u, h.get? b = some u → h'.get? b = some u) : Un fs ex H H h h' :=
  ⟨fun b ob q _ _ _ => k b ob q, fun b ob q _ _ _ => ⟨ob.slots, k b ob q⟩, fun _ _ _ n _ => n, fun b ob q _ => ⟨ob, k b ob q⟩, fun _ _ q => q, fun _ _ _ q => q, fun _ ps q => q⟩
theorem Un.refl : Un fs ex H H h h := Un.kept fun _ _ q => q
theorem Un.laid (k : ∀ b u, h.get? b = some u → h'.get? b = some u) (hp : h.objs.size ≤ a) (hn : H a = none) : Un fs ex H (upd H a o) h h' where
  keep := fun b u q _ _ _ => k b u q
  slot := fun b u q _ _ _ => ⟨u.slots, k b u q⟩
  free := fun b u q n _ => by rw [upd_ne (Nat.ne_of_lt (Nat.lt_of_lt_of_le (Heap.lt_size q) hp))]; exact n
  there := fun b u q _ => ⟨u, k b u q⟩
  tups := fun b xs q => by rw [upd_ne (ne_of_none q hn)]; exact q
  frzs := fun b u xs q => by rw [upd_ne (ne_of_none q hn)]; exact q
  tbls := fun b ps q => by rw [upd_ne (ne_of_none q hn), q]
theorem Un.write (mu : Mut (H x)) (he : e = x ∨ H e = some (.own x)) (k : ∀ b u, b ≠ e → h.get? b = some u → h'.get? b = some u) (heo : ∃ u, h'.get? e = some u) : Un fs ex H (upd H x o) h h' := by
  have hx : ∀ b, H b = none → b ≠ x := fun b n z => by subst z; rw [n] at mu; exact mu
  have hb : ∀ b, H b = none → b ≠ e := fun b n z => by
    subst z
    rcases he with r | r
    · exact hx b n r
    · rw [n] at r; cases r
  have hm : ∀ b u, H b = some u → ¬ Mut (some u) → b ≠ x := fun b u q nm z => by subst z; rw [q] at mu; exact nm mu
  refine ⟨fun b u q n _ _ => k b u (hb b n) q, fun b u q n _ _ => ⟨u.slots, k b u (hb b n) q⟩, fun b u q n _ => by rw [upd_ne (hx b n)]; exact n, fun b u q _ => ?_,
    fun b xs q => by rw [upd_ne (hm b _ q fun z => z)]; exact q, fun b u xs q => by rw [upd_ne (hm b _ q fun z => z)]; exact q, fun b ps q => by rw [upd_ne (hm b _ q fun z => z), q]⟩
  by_cases hbe : b = e
  · subst hbe; exact heo
  · exact ⟨u, k b u hbe q⟩
end
noncomputable def trk (h : Heap) (H : Hp) : List Addr := (List.range h.objs.size).filter fun a => (H a).isSome
noncomputable def hidT (h : Heap) (H : Hp) : Heap := PySem.W.hideAll h (trk h H)
theorem hidT_size (h : Heap) (H : Hp) : (hidT h H).objs.size = h.objs.size := PySem.W.hideAll_size _ _
theorem hidT_get {h : Heap} {H : Hp} {b : Addr} {o : Obj} (e : h.get? b = some o) (n : H b = none) : (hidT h H).get? b = some o :=
  PySem.W.hideAll_get _ e fun hm => by
    have q : (H b).isSome = true := (List.mem_filter.mp hm).2
    rw [n] at q; simp at q
theorem of_hidT {h : Heap} {H : Hp} {b : Addr} {o : Obj} (e : (hidT h H).get? b = some o) : h.get? b = some o ∧ H b = none := by
  have e' : h.get? b = some o := PySem.W.of_hideAll (trk h H) e
  refine ⟨e', ?_⟩
  cases q : H b with
  | none => rfl
  | some x =>
    have hm : b ∈ trk h H := List.mem_filter.mpr ⟨List.mem_range.mpr (Heap.lt_size e'), by simp [q]⟩
    have z : (hidT h H).get? b = none := PySem.W.hideAll_none (trk h H) hm
    rw [z] at e; cases e
end L2
namespace L2
open PySem PySem.Spec PyProof.Rows
structure Mod (K : PySem.W.Frag) (mg : Str → Option Value) (base : Heap) : Prop where
  kin : K.In base
  glob : base.Ns mainGlobals mg
  blt : ∃ mb, base.Ns builtinsNs mb ∧ ∀ x : Str, x ≠ "__name__" → mb x = bootBuiltins x
  nolimit : base.NoLimit
  bm : ∃ bm ob, mg "__builtins__" = some (.ref bm) ∧ bm ≠ builtinsNs ∧ base.get? bm = some ob ∧ ob.cls = .type "module" ∧ ob.dict = some builtinsNs ∧ ob.data = .plain
noncomputable def lamNames : List Str := ["going_of", "count_of_chain", "cut_paper", "downsets", "strictest_chains"]
noncomputable def lamQ (x : Str) : Str := x ++ ".<locals>.<lambda>"
noncomputable def lamTabs (K : PySem.W.Frag) : List (Str × Addr × Addr) := lamNames.filterMap fun x => (PySem.W.tabIn K x).map fun p => (x, p.1, p.2)
noncomputable def TabK (K : PySem.W.Frag) (base : Heap) (H : Hp) : Prop := ∀ t ∈ lamTabs K, PySem.W.CodeHd base t.2.1 t.2.2 ∧ H t.2.2 = some (.tbl (lamQ t.1))
structure Cx where
  prog : Program
  w : World
  K : PySem.W.Frag
  mg : Str → Option Value
  base : Heap
  A : Around
  N : List Str
  s₀ : Shared
  H₀ : Hp
  env : Env
  outer : List Env
  stack : List Env
  ex : List Addr
  fn : Str → Bool
  calm : Bool
  pn : List (Addr × Obj)
  xe : Value → Shared → Prop
noncomputable def frs (l : List Env) : List Addr := l.filterMap (·.frame)
noncomputable abbrev Cx.fs (X : Cx) : List Addr := frs X.outer
noncomputable def Vis (sc : Scope) (x : Str) : Prop := sc.names.lookup x = some .local ∨ sc.names.lookup x = some .cell ∨ sc.names.lookup x = some .free
noncomputable def Loc (sc : Scope) (x : Str) : Prop := sc.names.lookup x = some .local ∨ sc.names.lookup x = some .cell
noncomputable def Look (env : Env) (h : Heap) (m : Str → Option Value) (x : Str) (u : Value) : Prop :=
  (env.kindOf x = some .local ∧ m x = some u) ∨ ((env.kindOf x = some .cell ∨ env.kindOf x = some .free) ∧ ∃ c, env.cells.lookup x = some c ∧ h.IsCell c (some u))
structure Cx.Ok (X : Cx) : Prop where
  mod : Mod X.K X.mg X.base
  kind : X.env.scope.kind = .function
  glob : X.env.globals = mainGlobals
  blt : X.env.builtins = builtinsNs
  above : X.s₀.heap.objs.size ≤ X.env.locals
  inj : ∀ x y c, X.env.cells.lookup x = some c → X.env.cells.lookup y = some c → x = y
  has : ∀ x, (X.env.kindOf x = some .cell ∨ X.env.kindOf x = some .free) → ∃ c, X.env.cells.lookup x = some c
  cab : ∀ x c, X.fn x = true → X.env.cells.lookup x = some c → X.s₀.heap.objs.size ≤ c
  hd : X.calm = true → X.A.handled = none
  frames : X.A.frames = some X.stack
  stk : X.stack = X.outer ∨ (X.stack = X.env :: X.outer ∧ X.env.frame = some X.env.locals)
  exf : ∀ b ∈ X.ex, b ≠ X.env.locals ∧ ∀ x c, X.env.cells.lookup x = some c → c ≠ b
  bs : ∀ b o, X.base.get? b = some o → X.s₀.heap.get? b = some o ∧ X.H₀ b = none
  bsz : X.base.objs.size ≤ X.s₀.heap.objs.size
  noex : ∀ b o, X.base.get? b = some o → b ∉ X.ex
  exfs : ∀ b ∈ X.ex, b ∉ X.fs
  funs : X.s₀.heap.FunFrames X.base X.outer
  frf : ∀ b ∈ X.fs, X.H₀ b = none
  tab : TabK X.K X.base X.H₀
structure Inv (X : Cx) (pins : List (Addr × Obj)) (σ : List (Option V)) (H : Hp) (s : Shared) : Prop where
  ok : X.Ok
  os : s.os = X.s₀.os
  bare : AllBare s.gens
  base : Un X.fs X.ex X.H₀ H X.s₀.heap s.heap
  loc : ∃ m, s.heap.Ns X.env.locals m ∧ ∀ (i : Nat) (x : Str) (v : V), X.N[i]? = some x → σ[i]? = some (some v) → Vis X.env.scope x → ∃ u, RelV v u ∧ Look X.env s.heap m x u
  cell : ∀ x c, X.env.cells.lookup x = some c → ∃ v, s.heap.IsCell c v
  free : H X.env.locals = none
  freeC : ∀ x c, X.env.cells.lookup x = some c → H c = none
  pin : ∀ p ∈ X.pn ++ pins, s.heap.get? p.1 = some p.2 ∧ H p.1 = none ∧ p.1 ≠ X.env.locals ∧ p.1 ∉ X.fs ∧ ∀ v, p.2.data ≠ .cell v
  hok : HOk X.prog X.w H s.heap
  len : σ.length = X.N.length
section
variable {X : Cx} {pins : List (Addr × Obj)} {σ : List (Option V)} {H H' : Hp} {s : Shared} {h' : Heap}
theorem Cx.Ok.nofr (ok : X.Ok) {b : Addr} {o : Obj} (e : X.base.get? b = some o) : b ∉ X.fs := fun hb => by
  have := (ok.funs.mem hb).1
  rw [e] at this; cases this
theorem Inv.bs (I : Inv X pins σ H s) : ∀ b o, X.base.get? b = some o → s.heap.get? b = some o ∧ H b = none := fun b o e =>
  ⟨I.base.keep b o (I.ok.bs b o e).1 (I.ok.bs b o e).2 (I.ok.nofr e) (I.ok.noex b o e), I.base.free b o (I.ok.bs b o e).1 (I.ok.bs b o e).2 (I.ok.noex b o e)⟩
theorem Inv.bk (I : Inv X pins σ H s) : ∀ b o, X.base.get? b = some o → s.heap.get? b = some o := fun b o e => (I.bs b o e).1
theorem Inv.mod (I : Inv X pins σ H s) : Mod X.K X.mg X.base := I.ok.mod
theorem Inv.tab (I : Inv X pins σ H s) : TabK X.K X.base H := fun t ht => ⟨(I.ok.tab t ht).1, I.base.tbls _ _ (I.ok.tab t ht).2⟩
theorem Inv.kIn (I : Inv X pins σ H s) : X.K.In s.heap := I.ok.mod.kin.keeps I.bk
theorem Inv.fr (I : Inv X pins σ H s) : ∃ m, Fr X.base X.env.locals s.heap m :=
  let ⟨m, hn, _⟩ := I.loc
  ⟨m, hn, I.bk, Nat.le_trans I.ok.bsz I.ok.above⟩
theorem Inv.lt (I : Inv X pins σ H s) : X.env.locals < s.heap.objs.size := let ⟨_, hn, _⟩ := I.loc; hn.lt
theorem Inv.sz (I : Inv X pins σ H s) : X.s₀.heap.objs.size ≤ s.heap.objs.size := Nat.le_trans I.ok.above (Nat.le_of_lt I.lt)
theorem Inv.nofs (I : Inv X pins σ H s) {a : Addr} (h : s.heap.objs.size ≤ a) : a ∉ X.fs := fun hb => by
  obtain ⟨_, o, ho, _⟩ := I.ok.funs.mem hb
  exact absurd (Nat.lt_of_lt_of_le (Heap.lt_size ho) (Nat.le_trans I.sz h)) (Nat.lt_irrefl _)
theorem Inv.cne (I : Inv X pins σ H s) : ∀ x c, X.env.cells.lookup x = some c → c ≠ X.env.locals := fun x c e z => by
  obtain ⟨v, o, ho, hd⟩ := I.cell x c e
  obtain ⟨m, ⟨o', es, ep, ho', hd', _⟩, _⟩ := I.loc
  rw [z, ho'] at ho; cases ho; rw [hd'] at hd; cases hd
theorem Inv.funs (I : Inv X pins σ H s) : s.heap.FunFrames X.base X.outer := by
  have all : ∀ (l : List Env), (∀ b ∈ frs l, b ∈ X.fs) → X.s₀.heap.FunFrames X.base l → s.heap.FunFrames X.base l := by
    intro l
    induction l with
    | nil => intro _ _; trivial
    | cons env r ih =>
      intro hs hl
      obtain ⟨hk, ⟨L, o, hf, hn, ho, hd⟩, hr⟩ := hl
      have hL : L ∈ X.fs := hs L (by unfold frs; rw [List.filterMap_cons, hf]; exact List.mem_cons_self)
      obtain ⟨sl, e⟩ := I.base.slot L o ho (I.ok.frf L hL) hL fun z => I.ok.exfs L z hL
      exact ⟨hk, ⟨L, _, hf, hn, e, hd⟩, ih (fun b hb => hs b (by unfold frs; rw [List.filterMap_cons, hf]; exact List.mem_cons_of_mem _ hb)) hr⟩
  exact all X.outer (fun _ hb => hb) I.ok.funs
theorem Inv.stack (I : Inv X pins σ H s) : s.heap.FunFrames X.base X.stack := by
  rcases I.ok.stk with e | ⟨e, hf⟩
  · rw [e]; exact I.funs
  · rw [e]
    obtain ⟨m, hn, _⟩ := I.loc
    refine .cons (by rw [I.ok.kind]; decide) hf hn ?_ I.funs
    exact Heap.get?_none_of_le (Nat.le_trans I.ok.bsz I.ok.above)
theorem Inv.stkSub (I : Inv X pins σ H s) : ∀ b ∈ frs X.stack, b ∈ X.env.locals :: X.fs := fun b hb => by
  rcases I.ok.stk with e | ⟨e, hf⟩
  · rw [e] at hb; exact List.mem_cons_of_mem _ hb
  · rw [e] at hb
    unfold frs at hb
    rw [List.filterMap_cons, hf] at hb
    exact hb
theorem Inv.stkFree (I : Inv X pins σ H s) : ∀ b ∈ frs X.stack, H b = none := fun b hb => by
  rcases List.mem_cons.mp (I.stkSub b hb) with e | hb
  · rw [e]; exact I.free
  · obtain ⟨_, o, ho, _⟩ := I.ok.funs.mem hb
    exact I.base.free b o ho (I.ok.frf b hb) fun z => I.ok.exfs b z hb
theorem Inv.step {g' : Array GenState} {t' : Nat} {d' : Drawn} {ch : List Addr} (I : Inv X pins σ H s)
    (hch : ∀ b ∈ ch, (b ∈ X.ex ∨ X.s₀.heap.objs.size ≤ b) ∧ b ≠ X.env.locals ∧ (∀ x c, X.env.cells.lookup x = some c → c ≠ b) ∧ ∀ p ∈ X.pn ++ pins, p.1 ≠ b)
    (keep : ∀ b o, b ≠ X.env.locals → b ∉ X.fs → b ∉ ch → s.heap.get? b = some o → H b = none → h'.get? b = some o)
    (slot : ∀ b o, b ≠ X.env.locals → b ∈ X.fs → b ∉ ch → s.heap.get? b = some o → H b = none → ∃ sl, h'.get? b = some { o with slots := sl }) (free : ∀ b o, b ∉ ch → s.heap.get? b = some o → H b = none → H' b = none)
    (there : ∀ b o, b ∉ ch → s.heap.get? b = some o → ∃ o', h'.get? b = some o')
    (tups : ∀ b xs, H b = some (.tup xs) → H' b = some (.tup xs)) (frzs : ∀ b o u, H b = some (.frz o u) → H' b = some (.frz o u)) (tbls : ∀ b q, H b = some (.tbl q) → H' b = some (.tbl q))
    (ns : ∀ m, s.heap.Ns X.env.locals m → h'.Ns X.env.locals m) (hok : HOk X.prog X.w H' h') (hg : AllBare g') :
    Inv X pins σ H' { s with heap := h', gens := g', drawn := d', toks := t' } := by
  have neL : ∀ b o, X.s₀.heap.get? b = some o → b ≠ X.env.locals := fun b o e => Nat.ne_of_lt (Nat.lt_of_lt_of_le (Heap.lt_size e) I.ok.above)
  have neC : ∀ b o, X.s₀.heap.get? b = some o → b ∉ X.ex → b ∉ ch := fun b o e hx hb => by
    rcases (hch b hb).1 with z | z
    · exact hx z
    · exact absurd (Nat.lt_of_lt_of_le (Heap.lt_size e) z) (Nat.lt_irrefl _)
  have cellK : ∀ x c, X.env.cells.lookup x = some c → ∀ v, s.heap.IsCell c v → h'.IsCell c v := fun x c e v hq0 => by
    obtain ⟨o, ho, hd⟩ := hq0
    have nch : c ∉ ch := fun z => (hch c z).2.2.1 x c e rfl
    by_cases hc : c ∈ X.fs
    · obtain ⟨sl, q⟩ := slot c o (I.cne x c e) hc nch ho (I.freeC x c e)
      exact ⟨_, q, hd⟩
    · exact ⟨o, keep c o (I.cne x c e) hc nch ho (I.freeC x c e), hd⟩
  refine ⟨I.ok, I.os, hg, ⟨fun b o e n hb hx => ?_, fun b o e n hb hx => ?_, fun b o e n hx => ?_, fun b o e hx => ?_, fun b xs e => tups b xs (I.base.tups b xs e), fun b o xs e => frzs b o xs (I.base.frzs b o xs e), fun b ps e => tbls b ps (I.base.tbls b ps e)⟩, ?_, fun x c e => ?_, ?_, fun x c e => ?_, fun p hp => ?_, hok, I.len⟩
  · exact keep b o (neL b o e) hb (neC b o e hx) (I.base.keep b o e n hb hx) (I.base.free b o e n hx)
  · obtain ⟨sl, e1⟩ := I.base.slot b o e n hb hx
    obtain ⟨sl', e2⟩ := slot b _ (neL b o e) hb (neC b o e hx) e1 (I.base.free b o e n hx)
    exact ⟨sl', e2⟩
  · obtain ⟨o', e1⟩ := I.base.there b o e hx
    exact free b o' (neC b o e hx) e1 (I.base.free b o e n hx)
  · obtain ⟨o', e1⟩ := I.base.there b o e hx
    exact there b o' (neC b o e hx) e1
  · obtain ⟨m, hn, hl⟩ := I.loc
    refine ⟨m, ns m hn, fun i x v e1 e2 e3 => ?_⟩
    obtain ⟨u, r, l⟩ := hl i x v e1 e2 e3
    refine ⟨u, r, ?_⟩
    rcases l with l | ⟨k, c, e, z⟩
    · exact .inl l
    · exact .inr ⟨k, c, e, cellK x c e _ z⟩
  · obtain ⟨v, z⟩ := I.cell x c e
    exact ⟨v, cellK x c e v z⟩
  · obtain ⟨m, ⟨o, _, _, ho, _⟩, _⟩ := I.loc
    exact free _ o (fun z => (hch _ z).2.1 rfl) ho I.free
  · obtain ⟨v, o, ho, hd⟩ := I.cell x c e
    exact free c o (fun z => (hch c z).2.2.1 x c e rfl) ho (I.freeC x c e)
  · obtain ⟨e, n, ne, nf, d⟩ := I.pin p hp
    have nch : p.1 ∉ ch := fun z => (hch p.1 z).2.2.2 p hp rfl
    exact ⟨keep p.1 p.2 ne nf nch e n, free p.1 p.2 nch e n, ne, nf, d⟩
theorem Inv.un {t' : Nat} (I : Inv X pins σ H s) (u : Un X.fs [] H H' s.heap h') (hok : HOk X.prog X.w H' h') : Inv X pins σ H' { s with heap := h', toks := t' } := by
  obtain ⟨m, ⟨o, es, ep, ho, r⟩, _⟩ := id I.loc
  obtain ⟨sl, hL⟩ := u.any ho I.free (by simp)
  exact I.step (g' := s.gens) (d' := s.drawn) (ch := []) (fun _ z => nomatch z) (fun b o _ hb _ e n => u.keep b o e n hb (by simp)) (fun b o _ hb _ e n => u.slot b o e n hb (by simp)) (fun b o _ e n => u.free b o e n (by simp)) (fun b o _ e => u.there b o e (by simp)) u.tups u.frzs u.tbls (fun m' hm => by
    obtain ⟨o', es', ep', ho', r'⟩ := hm
    rw [ho] at ho'; cases ho'
    exact ⟨_, es', ep', hL, r'⟩) hok I.bare
theorem Inv.call {g' : Array GenState} {t' : Nat} {d' : Drawn} {ch : List Addr} (I : Inv X pins σ H s) (u : Un (frs X.stack) ch H H' s.heap h') (hok : HOk X.prog X.w H' h') (hg : AllBare g')
    (hch : ∀ b ∈ ch, (b ∈ X.ex ∨ X.s₀.heap.objs.size ≤ b) ∧ b ≠ X.env.locals ∧ (∀ x c, X.env.cells.lookup x = some c → c ≠ b) ∧ ∀ p ∈ X.pn ++ pins, p.1 ≠ b) :
    Inv X pins σ H' { s with heap := h', gens := g', drawn := d', toks := t' } := by
  obtain ⟨m, ⟨o, es, ep, ho, r⟩, _⟩ := id I.loc
  obtain ⟨sl, hL⟩ := u.any ho I.free fun z => (hch _ z).2.1 rfl
  exact I.step (ch := ch) hch (fun b o hL hb hc e n => u.keep b o e n (fun z => (List.mem_cons.mp (I.stkSub b z)).elim hL hb) hc) (fun b o _ _ hc e n => u.any e n hc) (fun b o hc e n => u.free b o e n hc) (fun b o hc e => u.there b o e hc) u.tups u.frzs u.tbls (fun m' hm => by
    obtain ⟨o', es', ep', ho', r'⟩ := hm
    rw [ho] at ho'; cases ho'
    exact ⟨_, es', ep', hL, r'⟩) hok hg
theorem Inv.turned {t' : Nat} {it : Addr} (I : Inv X pins σ H s) (k : ∀ b o, b ≠ it → s.heap.get? b = some o → h'.get? b = some o) (hn : H it = none) (hL : it ≠ X.env.locals)
    (h1 : it ∈ X.ex ∨ X.s₀.heap.objs.size ≤ it) (h2 : ∀ x c, X.env.cells.lookup x = some c → c ≠ it) (h3 : ∀ p ∈ X.pn ++ pins, p.1 ≠ it) : Inv X pins σ H { s with heap := h', toks := t' } := by
  have nit : ∀ b u, H b = some u → b ≠ it := fun b u e z => by rw [z, hn] at e; cases e
  refine I.step (g' := s.gens) (d' := s.drawn) (ch := [it]) (fun b hb => ?_) (fun b o _ _ hc e _ => k b o (fun z => hc (by simp [z])) e) (fun b o _ _ hc e _ => ⟨o.slots, k b o (fun z => hc (by simp [z])) e⟩) (fun _ _ _ _ n => n)
    (fun b o hc e => ⟨o, k b o (fun z => hc (by simp [z])) e⟩) (fun _ _ e => e) (fun _ _ _ e => e) (fun b ps e => e) (fun m hm => ?_) (fun b u e => ?_) I.bare
  · have e : b = it := by simpa using hb
    subst e
    exact ⟨h1, hL, h2, h3⟩
  · obtain ⟨o, es, ep, ho, r⟩ := hm
    exact ⟨o, es, ep, k _ o (Ne.symm hL) ho, r⟩
  · refine (I.hok b u e).stay (fun c v hc q => k c v ?_ q) (fun _ q => q) fun _ _ q => q
    rcases hc with z | z
    · rw [z]; exact nit b u e
    · exact nit c _ z
theorem Inv.tok (I : Inv X pins σ H s) (t : Nat) : Inv X pins σ H { s with toks := t } := I.un (h' := s.heap) (t' := t) Un.refl I.hok
theorem Inv.kept {t' : Nat} (I : Inv X pins σ H s) (k : ∀ b u, s.heap.get? b = some u → h'.get? b = some u) : Inv X pins σ H { s with heap := h', toks := t' } := I.un (Un.kept k) (I.hok.kept k)
theorem Inv.laid {a : Addr} {o : HO} {t' : Nat} (I : Inv X pins σ H s) (k : ∀ b u, s.heap.get? b = some u → h'.get? b = some u) (hp : s.heap.objs.size ≤ a) (new : ObjOk X.prog X.w (upd H a o) h' a o) :
    Inv X pins σ (upd H a o) { s with heap := h', toks := t' } := I.un (Un.laid k hp (I.hok.fresh hp)) (I.hok.laid k hp new)
theorem Inv.write {x e : Addr} {o : HO} {t' : Nat} (I : Inv X pins σ H s) (mu : Mut (H x)) (he : e = x ∨ H e = some (.own x)) (k : ∀ b u, b ≠ e → s.heap.get? b = some u → h'.get? b = some u) (heo : ∃ u, h'.get? e = some u)
    (new : ObjOk X.prog X.w (upd H x o) h' x o) : Inv X pins σ (upd H x o) { s with heap := h', toks := t' } := I.un (Un.write mu he k heo) (I.hok.write mu he k heo new)
theorem Inv.weak {σ' : List (Option V)} (I : Inv X pins σ H s) (hl : σ'.length = σ.length) (w : ∀ (i : Nat) v, σ'[i]? = some (some v) → σ[i]? = some (some v)) : Inv X pins σ' H s :=
  ⟨I.ok, I.os, I.bare, I.base, let ⟨m, hn, hl'⟩ := I.loc; ⟨m, hn, fun i x v e1 e2 e3 => hl' i x v e1 (w i v e2) e3⟩, I.cell, I.free, I.freeC, I.pin, I.hok, hl.trans I.len⟩
theorem Inv.pins_of {pins' : List (Addr × Obj)} (I : Inv X pins σ H s) (h : ∀ p ∈ pins', s.heap.get? p.1 = some p.2 ∧ H p.1 = none ∧ p.1 ≠ X.env.locals ∧ p.1 ∉ X.fs ∧ ∀ v, p.2.data ≠ .cell v) : Inv X pins' σ H s :=
  ⟨I.ok, I.os, I.bare, I.base, I.loc, I.cell, I.free, I.freeC, fun p hp => (List.mem_append.mp hp).elim (fun z => I.pin p (List.mem_append_left _ z)) (h p), I.hok, I.len⟩
theorem nodup_ix {N : List Str} (hN : N.Nodup) {i j : Nat} {x : Str} (a : N[i]? = some x) (b : N[j]? = some x) : i = j := by
  obtain ⟨h1, e1⟩ := List.getElem?_eq_some_iff.mp a
  obtain ⟨h2, e2⟩ := List.getElem?_eq_some_iff.mp b
  exact (List.getElem_inj hN).mp (e1.trans e2.symm)
theorem store_ok2 {M : Model} {A : Around} {E : Value → Shared → Prop} {i : Nat} {x : Str} {v : V} {u : Value} {Q : Unit → Shared → Prop} (I : Inv X pins σ H s) (hN : X.N.Nodup) (hi : X.N[i]? = some x) (hx : Loc X.env.scope x) (r : RelV v u)
    (h : ∀ s', Inv X pins (σ.set i (some v)) H s' → (∃ a, Heap.SameBut a s.heap s'.heap ∧ (a = X.env.locals ∨ X.env.cells.lookup x = some a)) → Q () s') (hf : X.fn x = true ∨ X.env.scope.names.lookup x = some .local := by first | exact .inl rfl | exact .inr rfl | assumption) : wpAny M A (storeName X.env x u) Q E s := by
  obtain ⟨m, hn, hl⟩ := id I.loc
  have hcls : (X.env.scope.kind == .class || (X.env.scope.kind == .module && X.env.locals != X.env.globals)) = false := by rw [I.ok.kind]; rfl
  have hiσ : i < σ.length := by rw [I.len]; exact (List.getElem?_eq_some_iff.mp hi).1
  have cne := I.cne
  have tracked : ∀ {a : Addr} {h' : Heap}, (∃ o, s.heap.get? a = some o ∧ H a = none) → Heap.SameBut a s.heap h' → HOk X.prog X.w H h' := fun {a h'} ha hs b ob e => by
    obtain ⟨_, _, hfree⟩ := ha
    refine (I.hok b ob e).stay (fun c w' hc q => (hs.2 c ?_).trans q) (fun _ q => q) fun _ _ q => q
    rintro rfl
    rcases hc with rfl | hc
    · rw [hfree] at e; cases e
    · rw [hfree] at hc; cases hc
  rcases hx with hk | hk
  · refine wpAny_storeName_local hk hn (fun h' hn' hs => ?_) hcls
    obtain ⟨oL, _, _, hoL, _⟩ := id hn
    refine h _ ⟨I.ok, I.os, I.bare, ⟨fun b o e n hb hx => ?_, fun b o e n hb hx => ?_, I.base.free, fun b o e hx => ?_, I.base.tups, I.base.frzs, I.base.tbls⟩, ⟨_, hn', fun j y v' e1 e2 e3 => ?_⟩, fun y c e => ?_, I.free, I.freeC, fun p hp => ?_, tracked ⟨oL, hoL, I.free⟩ hs, by simpa using I.len⟩ ⟨_, hs, .inl rfl⟩
    · exact (hs.2 b (Nat.ne_of_lt (Nat.lt_of_lt_of_le (Heap.lt_size e) I.ok.above))).trans (I.base.keep b o e n hb hx)
    · obtain ⟨sl, e1⟩ := I.base.slot b o e n hb hx
      exact ⟨sl, (hs.2 b (Nat.ne_of_lt (Nat.lt_of_lt_of_le (Heap.lt_size e) I.ok.above))).trans e1⟩
    · obtain ⟨o', e1⟩ := I.base.there b o e hx
      exact ⟨o', (hs.2 b (Nat.ne_of_lt (Nat.lt_of_lt_of_le (Heap.lt_size e) I.ok.above))).trans e1⟩
    · by_cases hj : j = i
      · subst hj
        rw [hi] at e1; cases e1
        rw [List.getElem?_set_self hiσ] at e2
        cases e2
        exact ⟨u, r, .inl ⟨hk, by simp⟩⟩
      · rw [List.getElem?_set_ne (Ne.symm hj)] at e2
        obtain ⟨u', r', q⟩ := hl j y v' e1 e2 e3
        refine ⟨u', r', ?_⟩
        rcases q with ⟨k, e⟩ | ⟨k, c, e, z⟩
        · refine .inl ⟨k, ?_⟩
          have : y ≠ x := fun e => hj (nodup_ix hN e1 (e ▸ hi))
          simp [this, e]
        · exact .inr ⟨k, c, e, z.sameBut hs (cne y c e)⟩
    · obtain ⟨w', z⟩ := I.cell y c e
      exact ⟨w', z.sameBut hs (cne y c e)⟩
    · obtain ⟨e, n, ne, nf, d⟩ := I.pin p hp
      exact ⟨(hs.2 p.1 ne).trans e, n, ne, nf, d⟩
  · have hfn : X.fn x = true := by
      rcases hf with z | z
      · exact z
      · rw [z] at hk; cases hk
    obtain ⟨c, hc⟩ := I.ok.has x (.inl hk)
    obtain ⟨w', z⟩ := I.cell x c hc
    refine wpAny_storeName_cell I.ok.kind hk hc z (fun h' hc' hs => ?_)
    obtain ⟨oc, hoc, hocd⟩ := id z
    refine h { s with heap := h' } ⟨I.ok, I.os, I.bare, ⟨fun b o e n hb hx => ?_, fun b o e n hb hx => ?_, I.base.free, fun b o e hx => ?_, I.base.tups, I.base.frzs, I.base.tbls⟩, ⟨m, hn.sameBut hs (Ne.symm (cne x c hc)), fun j y v' e1 e2 e3 => ?_⟩, fun y c' e => ?_, I.free, I.freeC, fun p hp => ?_, tracked ⟨oc, hoc, I.freeC x c hc⟩ hs, by simpa using I.len⟩ ⟨c, hs, .inr hc⟩
    · exact (hs.2 b (Nat.ne_of_lt (Nat.lt_of_lt_of_le (Heap.lt_size e) (I.ok.cab x c hfn hc)))).trans (I.base.keep b o e n hb hx)
    · obtain ⟨sl, e1⟩ := I.base.slot b o e n hb hx
      exact ⟨sl, (hs.2 b (Nat.ne_of_lt (Nat.lt_of_lt_of_le (Heap.lt_size e) (I.ok.cab x c hfn hc)))).trans e1⟩
    · obtain ⟨o', e1⟩ := I.base.there b o e hx
      exact ⟨o', (hs.2 b (Nat.ne_of_lt (Nat.lt_of_lt_of_le (Heap.lt_size e) (I.ok.cab x c hfn hc)))).trans e1⟩
    · by_cases hj : j = i
      · subst hj
        rw [hi] at e1; cases e1
        rw [List.getElem?_set_self hiσ] at e2
        cases e2
        exact ⟨u, r, .inr ⟨.inl hk, c, hc, hc'⟩⟩
      · rw [List.getElem?_set_ne (Ne.symm hj)] at e2
        obtain ⟨u', r', q⟩ := hl j y v' e1 e2 e3
        refine ⟨u', r', ?_⟩
        rcases q with q | ⟨k, c', e, z'⟩
        · exact .inl q
        · refine .inr ⟨k, c', e, z'.sameBut hs ?_⟩
          rintro rfl
          exact hj (nodup_ix hN e1 (I.ok.inj _ _ _ e hc ▸ hi))
    · by_cases hcc : c' = c
      · subst hcc; exact ⟨_, hc'⟩
      · obtain ⟨w2, z2⟩ := I.cell y c' e
        exact ⟨w2, z2.sameBut hs hcc⟩
    · obtain ⟨e, n, ne, nf, d⟩ := I.pin p hp
      refine ⟨(hs.2 p.1 ?_).trans e, n, ne, nf, d⟩
      intro q
      rw [q, hoc] at e
      have q' : oc = p.2 := Option.some.inj e
      exact d w' (by rw [← q']; exact hocd)
theorem store_ok {M : Model} {A : Around} {E : Value → Shared → Prop} {i : Nat} {x : Str} {v : V} {u : Value} {Q : Unit → Shared → Prop} (I : Inv X pins σ H s) (hN : X.N.Nodup) (hi : X.N[i]? = some x) (hx : Loc X.env.scope x) (r : RelV v u)
    (h : ∀ s', Inv X pins (σ.set i (some v)) H s' → Q () s') (hf : X.fn x = true ∨ X.env.scope.names.lookup x = some .local := by first | exact .inl rfl | exact .inr rfl | assumption) : wpAny M A (storeName X.env x u) Q E s :=
  store_ok2 I hN hi hx r (fun s' I' _ => h s' I') hf
theorem Inv.call' {s' : Shared} {ch : List Addr} (I : Inv X pins σ H s) (ho : s'.os = s.os) (u : Un (frs X.stack) ch H H' s.heap s'.heap) (hok : HOk X.prog X.w H' s'.heap) (hg : AllBare s'.gens)
    (hch : ∀ b ∈ ch, (b ∈ X.ex ∨ X.s₀.heap.objs.size ≤ b) ∧ b ≠ X.env.locals ∧ (∀ x c, X.env.cells.lookup x = some c → c ≠ b) ∧ ∀ p ∈ X.pn ++ pins, p.1 ≠ b) : Inv X pins σ H' s' := by
  obtain ⟨h', g', d', t', o'⟩ := s'
  have e : o' = s.os := ho
  subst e
  exact I.call (g' := g') (t' := t') (d' := d') u hok hg hch
end
noncomputable abbrev XK := Value → Option Addr → Hp → Prop
noncomputable abbrev St := List (Option V)
noncomputable abbrev VK := V → Hp → Prop
noncomputable abbrev TE := St → Hp → VK → Prop
noncomputable abbrev TT := St → Hp → (Bool → Hp → Prop) → Prop
noncomputable abbrev TA := St → Hp → (List V → Hp → Prop) → Prop
structure Ends where
  nx : St → Hp → Prop
  rt : VK
  bk : St → Hp → Prop := fun _ _ => False
  ct : St → Hp → Prop := fun _ _ => False
noncomputable abbrev TS := Ends → St → Hp → Prop
noncomputable def EP (X : Cx) (pins : List (Addr × Obj)) (σ : St) (Q : VK) (u : Value) (s' : Shared) : Prop := ∃ v H', Inv X pins σ H' s' ∧ RelV v u ∧ Q v H'
noncomputable def TP (X : Cx) (pins : List (Addr × Obj)) (σ : St) (Q : Bool → Hp → Prop) (b : Bool) (s' : Shared) : Prop := ∃ H', Inv X pins σ H' s' ∧ Q b H'
noncomputable def AP (X : Cx) (pins : List (Addr × Obj)) (σ : St) (Q : List V → Hp → Prop) (us : List Value) (s' : Shared) : Prop := ∃ vs H', Inv X pins σ H' s' ∧ Vals vs us ∧ Q vs H'
noncomputable def SP (X : Cx) (pins : List (Addr × Obj)) (D : Ends) (f : Flow) (s' : Shared) : Prop :=
  match f with
  | .next => ∃ σ' H', Inv X pins σ' H' s' ∧ D.nx σ' H'
  | .brk => ∃ σ' H', Inv X pins σ' H' s' ∧ D.bk σ' H'
  | .cont => ∃ σ' H', Inv X pins σ' H' s' ∧ D.ct σ' H'
  | .ret u => ∃ v σ' H', Inv X pins σ' H' s' ∧ RelV v u ∧ D.rt v H'
noncomputable def PE (X : Cx) (e : Expr) (t : TE) : Prop :=
  ∀ (pins : List (Addr × Obj)) (s : Shared) (σ : St) (H : Hp) (Q : VK), Inv X pins σ H s → t σ H Q → wpAny (model X.prog X.w) X.A (eval e X.env) (EP X pins σ Q) X.xe s
noncomputable def PT (X : Cx) (e : Expr) (t : TT) : Prop :=
  ∀ (pins : List (Addr × Obj)) (s : Shared) (σ : St) (H : Hp) (Q : Bool → Hp → Prop), Inv X pins σ H s → t σ H Q → wpAny (model X.prog X.w) X.A (isTrue e X.env (eval e X.env)) (TP X pins σ Q) X.xe s
noncomputable def PW (X : Cx) (e : Expr) (t : TT) : Prop :=
  ∀ (whole : Sem Value) (pins : List (Addr × Obj)) (s : Shared) (σ : St) (H : Hp) (Q : Bool → Hp → Prop), Inv X pins σ H s → t σ H Q → wpAny (model X.prog X.w) X.A (isTrue e X.env whole) (TP X pins σ Q) X.xe s
theorem PW.pt {X : Cx} {e : Expr} {t : TT} (h : PW X e t) : PT X e t := h _
noncomputable def PA (X : Cx) (es : List Expr) (t : TA) : Prop :=
  ∀ (pos : Pos) (pins : List (Addr × Obj)) (s : Shared) (σ : St) (H : Hp) (Q : List V → Hp → Prop), Inv X pins σ H s → t σ H Q → wpAny (model X.prog X.w) X.A (spliced (backTo pos (starEach es X.env))) (AP X pins σ Q) X.xe s
noncomputable def PS (X : Cx) (st : Stmt) (t : TS) : Prop :=
  ∀ (pins : List (Addr × Obj)) (s : Shared) (σ : St) (H : Hp) (D : Ends), Inv X pins σ H s → t D σ H → wpAny (model X.prog X.w) X.A (exec st X.env) (SP X pins D) X.xe s
noncomputable def PSs (X : Cx) (st : List Stmt) (t : TS) : Prop :=
  ∀ (pins : List (Addr × Obj)) (s : Shared) (σ : St) (H : Hp) (D : Ends), Inv X pins σ H s → t D σ H → wpAny (model X.prog X.w) X.A (execs st X.env) (SP X pins D) X.xe s
theorem thn {α : Type} {t : Sem α} {Q Q' : α → Shared → Prop} {M : Model} {A : Around} {E : Value → Shared → Prop} {s : Shared} (h : wpAny M A t Q E s) (hQ : ∀ a s, Q a s → Q' a s) : wpAny M A t Q' E s := wpAny_mono h hQ fun _ _ x => x
end L2
namespace L2
open PySem PySem.Spec PyProof.Rows
section
variable {X : Cx}
noncomputable def tVar (i : Nat) : TE := fun σ H Q => ∃ v, σ[i]? = some (some v) ∧ Q v H
noncomputable def tC (v : V) : TE := fun _ H Q => Q v H
theorem pe_var {i : Nat} {x : Str} {pos : Pos} (hN : X.N[i]? = some x) (hv : Vis X.env.scope x) (hd : (x == ("__debug__" : Str)) = false := by decide) (hcd : (x == ("__classdict__" : Str)) = false := by decide) : PE X (.Name x pos) (tVar i) := by
  intro pins s σ H Q I h
  obtain ⟨v, e, h⟩ := h
  obtain ⟨m, hn, hl⟩ := I.loc
  obtain ⟨u, r, l⟩ := hl i x v hN e hv
  have fin : EP X pins σ Q u s := ⟨v, H, I, r, h⟩
  rcases l with ⟨hk, hm⟩ | ⟨hk, c, hc, hcell⟩
  · exact wpAny_Name (wpAny_loadName_local I.ok.kind hk hn hm fin) hd
  · rcases hk with hk | hk
    · exact wpAny_Name (wpAny_loadName_cell I.ok.kind hk hc hcell fin) hd
    · exact wpAny_Name (wpAny_loadName_free I.ok.kind hk hc hcell fin hcd) hd
theorem pe_int {i j pos} : PE X (.Constant (.int i) j pos) (tC (.int i)) := fun _ _ _ H _ I h => wpAny_Constant_int ⟨.int i, H, I.tok _, ⟨_, rfl⟩, h⟩
theorem pe_bl {b j pos} : PE X (.Constant (.bool b) j pos) (tC (.bl b)) := fun _ _ _ H _ I h => Constant_bool ⟨.bl b, H, I, rfl, h⟩
theorem pe_non {j pos} : PE X (.Constant .none j pos) (tC .non) := fun _ _ _ H _ I h => Constant_none ⟨.non, H, I, rfl, h⟩
theorem pe_str {x j pos} : PE X (.Constant (.str x) j pos) (tC (.str x)) := fun _ _ _ H _ I h => Calls.Constant_str ⟨.str x, H, I.tok _, ⟨_, rfl⟩, h⟩
noncomputable def Gl (X : Cx) (x : Str) : Prop := X.env.kindOf x = some .globalImplicit
theorem ld_glob {E : Value → Shared → Prop} {pins : List (Addr × Obj)} {s : Shared} {σ : St} {H : Hp} {x : Str} {u : Value} {pos : Pos} {Q : Value → Shared → Prop} (I : Inv X pins σ H s) (hg : Gl X x) (hm : X.mg x = some u) (h : Q u s)
    (hd : (x == ("__debug__" : Str)) = false := by decide) : wpAny (model X.prog X.w) X.A (eval (.Name x pos) X.env) Q E s :=
  Calls.Name_function_global I.ok.kind hg (Calls.loadGlobal_global (by rw [I.ok.glob]; exact I.mod.glob.keeps I.bk) hm h) hd
theorem ld_blt {E : Value → Shared → Prop} {pins : List (Addr × Obj)} {s : Shared} {σ : St} {H : Hp} {x : Str} {u : Value} {pos : Pos} {Q : Value → Shared → Prop} (I : Inv X pins σ H s) (hg : Gl X x) (hm : X.mg x = none) (hv : bootBuiltins x = some u) (h : Q u s)
    (hn : x ≠ "__name__" := by decide) (hd : (x == ("__debug__" : Str)) = false := by decide) : wpAny (model X.prog X.w) X.A (eval (.Name x pos) X.env) Q E s := by
  obtain ⟨mb, h1, h2⟩ := I.mod.blt
  exact Calls.Name_function_global I.ok.kind hg (Calls.loadGlobal_builtin (by rw [I.ok.glob]; exact I.mod.glob.keeps I.bk) hm (by rw [I.ok.blt]; exact h1.keeps I.bk) ((h2 x hn).trans hv) h) hd
theorem pe_glob {x : Str} {v : V} {u : Value} {pos : Pos} (hg : Gl X x) (hm : X.mg x = some u) (r : RelV v u) (hd : (x == ("__debug__" : Str)) = false := by decide) : PE X (.Name x pos) (tC v) :=
  fun _ _ _ H _ I h => ld_glob I hg hm ⟨v, H, I, r, h⟩ hd
theorem pe_bltn {x : Str} {v : V} {u : Value} {pos : Pos} (hg : Gl X x) (hm : X.mg x = none) (hv : bootBuiltins x = some u) (r : RelV v u) (hn : x ≠ "__name__" := by decide) (hd : (x == ("__debug__" : Str)) = false := by decide) : PE X (.Name x pos) (tC v) :=
  fun _ _ _ H _ I h => ld_blt I hg hm hv ⟨v, H, I, r, h⟩ hn hd
variable {a b : Expr} {ta tb : TE} {pos : Pos}
variable {tA tB' : TT} {rest : List Expr}
noncomputable def tAnd (t u : TT) : TT := fun σ H Q => t σ H fun c H1 => if c = true then u σ H1 Q else Q false H1
noncomputable def tOr (t u : TT) : TT := fun σ H Q => t σ H fun c H1 => if c = true then Q true H1 else u σ H1 Q
noncomputable def tNot (t : TT) : TT := fun σ H Q => t σ H fun c H1 => Q (!c) H1
theorem pw_and1 (ha : PT X a tA) : PW X (.BoolOp .And [a] pos) tA := by
  intro wh pins s σ H Q I h
  refine isTrue_and (thn (ha pins s σ H Q I h) fun c s1 e => ?_)
  cases c with
  | true => exact isTrue_and_nil e
  | false => exact e
theorem pw_or1 (ha : PT X a tA) : PW X (.BoolOp .Or [a] pos) tA := by
  intro wh pins s σ H Q I h
  refine isTrue_or (thn (ha pins s σ H Q I h) fun c s1 e => ?_)
  cases c with
  | false => exact isTrue_or_nil e
  | true => exact e
theorem pw_and (ha : PT X a tA) (hb : PW X (.BoolOp .And (b :: rest) pos) tB') : PW X (.BoolOp .And (a :: b :: rest) pos) (tAnd tA tB') := by
  intro wh pins s σ H Q I h
  refine isTrue_and (thn (ha pins s σ H _ I h) fun c s1 ⟨H1, I1, q1⟩ => ?_)
  cases c with
  | true => exact hb wh pins s1 σ H1 Q I1 q1
  | false => exact ⟨H1, I1, q1⟩
theorem pw_or (ha : PT X a tA) (hb : PW X (.BoolOp .Or (b :: rest) pos) tB') : PW X (.BoolOp .Or (a :: b :: rest) pos) (tOr tA tB') := by
  intro wh pins s σ H Q I h
  refine isTrue_or (thn (ha pins s σ H _ I h) fun c s1 ⟨H1, I1, q1⟩ => ?_)
  cases c with
  | true => exact ⟨H1, I1, q1⟩
  | false => exact hb wh pins s1 σ H1 Q I1 q1
theorem pt_not (ha : PT X a tA) : PT X (.UnaryOp .Not a pos) (tNot tA) := by
  intro pins s σ H Q I h
  exact isTrue_not (ha pins s σ H (fun c H1 => Q (!c) H1) I h)
noncomputable def tAndV (ta tb : TE) : TE := fun σ H Q => ta σ H fun x H1 => ∃ c, x = .bl c ∧ if c = true then tb σ H1 Q else Q (.bl false) H1
noncomputable def tNotV (ta : TE) : TE := fun σ H Q => ta σ H fun x H1 => ∃ c, x = .bl c ∧ Q (.bl (!c)) H1
theorem pe_one {op} {t : TE} (h : PE X a t) : PE X (.BoolOp op [a] pos) t := fun pins s σ H Q I hw => BoolOp_one (h pins s σ H Q I hw)
theorem pe_and (ha : PE X a ta) (hb : PE X (.BoolOp .And (b :: rest) pos) tb) : PE X (.BoolOp .And (a :: b :: rest) pos) (tAndV ta tb) := by
  intro pins s σ H Q I h
  refine BoolOp_and (thn (ha pins s σ H _ I h) fun v s1 ⟨x, H1, I1, r1, q1⟩ => ?_)
  obtain ⟨c, rfl, q1⟩ := q1
  cases r1
  refine wpAny_truthy_bool ?_
  cases c with
  | true => exact hb pins s1 σ H1 Q I1 q1
  | false => exact ⟨.bl false, H1, I1, rfl, q1⟩
theorem pe_not (ha : PE X a ta) : PE X (.UnaryOp .Not a pos) (tNotV ta) := by
  intro pins s σ H Q I h
  refine UnaryOp_ (thn (ha pins s σ H _ I h) fun v s1 ⟨x, H1, I1, r1, q1⟩ => ?_)
  obtain ⟨c, rfl, q1⟩ := q1
  cases r1
  exact not_of (wpAny_truthy_bool ⟨.bl (!c), H1, I1, rfl, q1⟩)
end
end L2
namespace L2
open PySem PySem.Spec PyProof.Rows
noncomputable def SqL (K : PySem.W.Frag) (H : Hp) (a : Addr) (xs : List V) : Prop :=
  Rd H a (.lst xs) ∨
    ∃ (o : Obj) (its : Array Value) (n : Nat), K.lookup a = some o ∧ o.cls = .type "list" ∧ o.dict = none ∧ o.data = .seq its n ∧ its.size ≤ sizeLine ∧ Vals xs its.toList
noncomputable def SqT (K : PySem.W.Frag) (H : Hp) (a : Addr) (xs : List V) : Prop :=
  Rd H a (.tup xs) ∨
    ∃ (o : Obj) (its : Array Value) (n : Nat), K.lookup a = some o ∧ o.cls = .type "tuple" ∧ o.data = .seq its n ∧ its.size ≤ sizeLine ∧ Vals xs its.toList
noncomputable def absV : Value → Option V
  | .none => some .non
  | .bool b => some (.bl b)
  | .int i _ => some (.int i)
  | .str x _ => some (.str x)
  | .bytes b _ => some (.byt b)
  | .float b _ => some (.flt b)
  | .ref a => some (.ref a)
  | .type n => some (.ty n)
  | _ => none
theorem RelV.abs {x : V} {u : Value} (r : RelV x u) : absV u = some x := by
  cases x with
  | non => cases r; rfl
  | bl _ => cases r; rfl
  | int _ => obtain ⟨t, rfl⟩ := r; rfl
  | str _ => obtain ⟨t, rfl⟩ := r; rfl
  | byt _ => obtain ⟨t, rfl⟩ := r; rfl
  | flt _ => obtain ⟨t, rfl⟩ := r; rfl
  | ref _ => cases r; rfl
  | ty _ => cases r; rfl
theorem RelV.inj {x y : V} {u : Value} (r : RelV x u) (q : RelV y u) : x = y := Option.some.inj (r.abs.symm.trans q.abs)
theorem Vals.inj : ∀ {xs ys : List V} {us : List Value}, Vals xs us → Vals ys us → xs = ys
  | _, _, _, .nil, .nil => rfl
  | _, _, _, .cons r t, .cons r' t' => by rw [r.inj r', Vals.inj t t']
section
variable {X : Cx} {pins : List (Addr × Obj)} {σ : St} {H : Hp} {s : Shared} {a : Addr} {xs ys : List V}
theorem SqL.of {K : PySem.W.Frag} (h : H a = some (.lst xs)) : SqL K H a xs := .inl (.inl h)
theorem SqT.of {K : PySem.W.Frag} (h : H a = some (.tup xs)) : SqT K H a xs := .inl (.inl h)
theorem Inv.list (I : Inv X pins σ H s) (h : SqL X.K H a xs) : ∃ its : List Value, Vals xs its ∧ PlainL s.heap a its.toArray ∧ xs.length ≤ sizeLine := by
  rcases h with h | ⟨o, its, n, hk, hc, hd, hs, hz, r⟩
  · obtain ⟨z, its, n, r, e⟩ := h.ok I.hok
    exact ⟨its, r, ⟨_, n, e, rfl, rfl, rfl⟩, z⟩
  · refine ⟨its.toList, r, ⟨o, n, I.kIn a o hk, hc, hd, by simpa using hs⟩, ?_⟩
    have e := r.length
    simp only [Array.length_toList] at e
    omega
theorem Inv.tuple (I : Inv X pins σ H s) (h : SqT X.K H a xs) : ∃ its : List Value, Vals xs its ∧ IsTup s.heap a its.toArray ∧ xs.length ≤ sizeLine := by
  rcases h with h | ⟨o, its, n, hk, hc, hs, hz, r⟩
  · obtain ⟨z, its, r, p, _⟩ := h.ok I.hok
    exact ⟨its, r, p, z⟩
  · refine ⟨its.toList, r, ⟨o, I.kIn a o hk, hc, n, by simpa using hs⟩, ?_⟩
    have e := r.length
    simp only [Array.length_toList] at e
    omega
theorem Inv.list_inj (I : Inv X pins σ H s) (h : SqL X.K H a xs) (h' : SqL X.K H a ys) : xs = ys := by
  obtain ⟨its, r, ⟨o, n, e, _, _, d⟩, _⟩ := I.list h
  obtain ⟨its', r', ⟨o', n', e', _, _, d'⟩, _⟩ := I.list h'
  rw [e] at e'; cases e'
  rw [d] at d'
  injection d' with d1 _
  have : its = its' := by simpa using congrArg Array.toList d1
  subst this
  exact r.inj r'
theorem Inv.tuple_inj (I : Inv X pins σ H s) (h : SqT X.K H a xs) (h' : SqT X.K H a ys) : xs = ys := by
  obtain ⟨its, r, ⟨o, e, _, n, d⟩, _⟩ := I.tuple h
  obtain ⟨its', r', ⟨o', e', _, n', d'⟩, _⟩ := I.tuple h'
  rw [e] at e'; cases e'
  rw [d] at d'
  injection d' with d1 _
  have : its = its' := by simpa using congrArg Array.toList d1
  subst this
  exact r.inj r'
end
noncomputable abbrev Cx.wish (X : Cx) (E : Value → Shared → Prop) : Cx := { X with xe := E }
noncomputable abbrev Cx.nox (X : Cx) : Cx := X.wish fun _ _ => False
theorem Cx.Ok.wish {X : Cx} (ok : X.Ok) (E : Value → Shared → Prop) : (X.wish E).Ok :=
  ⟨ok.mod, ok.kind, ok.glob, ok.blt, ok.above, ok.inj, ok.has, ok.cab, ok.hd, ok.frames, ok.stk, ok.exf, ok.bs, ok.bsz, ok.noex, ok.exfs, ok.funs, ok.frf, ok.tab⟩
theorem Cx.Ok.unwish {X : Cx} {E : Value → Shared → Prop} (ok : (X.wish E).Ok) : X.Ok :=
  ⟨ok.mod, ok.kind, ok.glob, ok.blt, ok.above, ok.inj, ok.has, ok.cab, ok.hd, ok.frames, ok.stk, ok.exf, ok.bs, ok.bsz, ok.noex, ok.exfs, ok.funs, ok.frf, ok.tab⟩
section
variable {X : Cx} {pins : List (Addr × Obj)} {σ : St} {H : Hp} {s : Shared} {E : Value → Shared → Prop}
theorem Inv.wish (I : Inv X pins σ H s) (E : Value → Shared → Prop) : Inv (X.wish E) pins σ H s := ⟨I.ok.wish E, I.os, I.bare, I.base, I.loc, I.cell, I.free, I.freeC, I.pin, I.hok, I.len⟩
theorem Inv.unwish (I : Inv (X.wish E) pins σ H s) : Inv X pins σ H s := ⟨I.ok.unwish, I.os, I.bare, I.base, I.loc, I.cell, I.free, I.freeC, I.pin, I.hok, I.len⟩
theorem SP.unwish {D : Ends} {f : Flow} {s' : Shared} (h : SP (X.wish E) pins D f s') : SP X pins D f s' := by
  cases f with
  | next => obtain ⟨σ', H', I, q⟩ := h; exact ⟨σ', H', I.unwish, q⟩
  | brk => obtain ⟨σ', H', I, q⟩ := h; exact ⟨σ', H', I.unwish, q⟩
  | cont => obtain ⟨σ', H', I, q⟩ := h; exact ⟨σ', H', I.unwish, q⟩
  | ret u => obtain ⟨v, σ', H', I, r, q⟩ := h; exact ⟨v, σ', H', I.unwish, r, q⟩
theorem PSs.nox {st : List Stmt} {t : TS} (h : PSs X.nox st t) : PSs X st t := fun pins s σ H D I hw =>
  wpAny_mono (h pins s σ H D (I.wish _) hw) (fun _ _ q => q.unwish) fun _ _ z => False.elim z
end
section
variable {X : Cx} {st : Stmt} {rest : List Stmt} {t u : TS} {e : Expr} {te : TE} {pos : Pos}
noncomputable def tNext : TS := fun D σ H => D.nx σ H
noncomputable def tSeq (t u : TS) : TS := fun D σ H => t { D with nx := u D } σ H
theorem pss_nil : PSs X [] tNext := fun _ _ σ H _ I h => wpAny_execs_nil ⟨σ, H, I, h⟩
theorem pss_cons (h1 : PS X st t) (h2 : PSs X rest u) : PSs X (st :: rest) (tSeq t u) := by
  intro pins s σ H D I h
  refine wpAny_execs_cons (thn (h1 pins s σ H { D with nx := u D } I h) fun f s1 q => ?_)
  cases f with
  | next =>
    obtain ⟨σ', H', I', q⟩ := q
    exact h2 pins s1 σ' H' D I' q
  | ret v => exact q
  | brk => exact q
  | cont => exact q
theorem pss_one (h1 : PS X st t) : PSs X [st] t := by
  intro pins s σ H D I h
  refine wpAny_execs_cons (thn (h1 pins s σ H D I h) fun f s1 q => ?_)
  cases f with
  | next => exact wpAny_execs_nil q
  | ret v => exact q
  | brk => exact q
  | cont => exact q
theorem Inv.quiet {pins : List (Addr × Obj)} {σ : St} {H : Hp} {s : Shared} (I : Inv X pins σ H s) : interactive X.env = false := by simp [interactive, I.ok.kind]
noncomputable def tDrop (te : TE) : TS := fun D σ H => te σ H fun _ H1 => D.nx σ H1
theorem ps_expr (he : PE X e te) (hs : swapsWith e none pos.line X.env = pure false := by rfl) : PS X (.Expr e pos) (tDrop te) := by
  intro pins s σ H D I h
  exact wpAny_Expr_any (thn (he pins s σ H _ I h) fun v s1 ⟨x, H1, I1, r1, q1⟩ => ⟨σ, H1, I1, q1⟩) I.quiet hs
noncomputable def tRet (te : TE) : TS := fun D σ H => te σ H D.rt
theorem ps_ret (he : PE X e te) : PS X (.Return (some e) pos) (tRet te) := by
  intro pins s σ H D I h
  exact wpAny_Return_some (thn (he pins s σ H _ I h) fun v s1 ⟨x, H1, I1, r1, q1⟩ => ⟨x, σ, H1, I1, r1, q1⟩)
noncomputable def tIfS (c : TT) (t u : TS) : TS := fun D σ H => c σ H fun b H1 => if b = true then t D σ H1 else u D σ H1
theorem ps_if {c : Expr} {a b : List Stmt} {tc : TT} (hc : PT X c tc) (ha : PSs X a t) (hb : PSs X b u) : PS X (.If c a b pos) (tIfS tc t u) := by
  intro pins s σ H D I h
  refine wpAny_If (thn (hc pins s σ H _ I h) fun d s1 ⟨H1, I1, q1⟩ => ?_)
  cases d with
  | true => exact ha pins s1 σ H1 D I1 q1
  | false => exact hb pins s1 σ H1 D I1 q1
end
noncomputable abbrev TG := V → St → Hp → (St → Hp → Prop) → Prop
noncomputable abbrev TGs := List V → St → Hp → (St → Hp → Prop) → Prop
noncomputable def PG (X : Cx) (target : Expr) (t : TG) : Prop :=
  ∀ (pins : List (Addr × Obj)) (s : Shared) (σ : St) (H : Hp) (v : V) (u : Value) (Q : St → Hp → Prop), Inv X pins σ H s → RelV v u → t v σ H Q →
    wpAny (model X.prog X.w) X.A (assign target X.env u) (fun _ s' => ∃ σ' H', Inv X pins σ' H' s' ∧ Q σ' H') X.xe s
noncomputable def PGs (X : Cx) (ts : List Expr) (t : TGs) : Prop :=
  ∀ (pins : List (Addr × Obj)) (s : Shared) (σ : St) (H : Hp) (vs : List V) (us : List Value) (Q : St → Hp → Prop), Inv X pins σ H s → Vals vs us → t vs σ H Q →
    wpAny (model X.prog X.w) X.A (assignInOrder ((assignEach ts X.env).map (·.2)) us) (fun _ s' => ∃ σ' H', Inv X pins σ' H' s' ∧ Q σ' H') X.xe s
noncomputable abbrev TSet := V → V → V → Hp → (Hp → Prop) → Prop
noncomputable def PSet (X : Cx) (t : TSet) : Prop :=
  ∀ (pins : List (Addr × Obj)) (s : Shared) (σ : St) (H : Hp) (o i v : V) (ov iv u : Value) (Q : Hp → Prop), Inv X pins σ H s → RelV o ov → RelV i iv → RelV v u → t o i v H Q →
    wpAny (model X.prog X.w) X.A (setItem ov iv u) (fun _ s' => ∃ H', Inv X pins σ H' s' ∧ Q H') X.xe s
section
variable {X : Cx} {pos : Pos}
noncomputable def gName (i : Nat) : TG := fun v σ H Q => Q (σ.set i (some v)) H
theorem pg_name {i : Nat} {x : Str} (hN : X.N.Nodup) (hi : X.N[i]? = some x) (hx : Loc X.env.scope x) (hf : X.fn x = true ∨ X.env.scope.names.lookup x = some .local := by first | exact .inl rfl | exact .inr rfl | assumption) : PG X (.Name x pos) (gName i) := by
  intro pins s σ H v u Q I r h
  exact wpAny_assign_Name (store_ok I hN hi hx r (fun s' I' => ⟨_, H, I', h⟩) hf)
noncomputable def gNil : TGs := fun vs σ H Q => vs = [] ∧ Q σ H
noncomputable def gCons (t : TG) (u : TGs) : TGs := fun vs σ H Q => ∃ v r, vs = v :: r ∧ t v σ H fun σ' H' => u r σ' H' Q
theorem pgs_nil : PGs X [] gNil := by
  intro pins s σ H vs us Q I r h
  obtain ⟨e, h⟩ := h
  subst e
  cases r
  exact assignInOrder_nil ⟨σ, H, I, h⟩
theorem pgs_cons {e : Expr} {es : List Expr} {t : TG} {u : TGs} (h1 : PG X e t) (h2 : PGs X es u)
    (hs : (assignEach (e :: es) X.env).map (·.2) = assign e X.env :: (assignEach es X.env).map (·.2) := by rfl) : PGs X (e :: es) (gCons t u) := by
  intro pins s σ H vs us Q I r h
  obtain ⟨v, vr, e1, h⟩ := h
  subst e1
  cases r with
  | cons r rr =>
    rw [hs]
    refine assignInOrder_cons (thn (h1 pins s σ H _ _ _ I r h) fun _ s1 ⟨σ1, H1, I1, q1⟩ => ?_)
    exact h2 pins s1 σ1 H1 _ _ Q I1 rr q1
noncomputable def gTup (K : PySem.W.Frag) (n : Nat) (t : TGs) : TG := fun v σ H Q => ∃ a xs, v = .ref a ∧ SqT K H a xs ∧ xs.length = n ∧ t xs σ H Q
theorem pg_tup {es : List Expr} {k : Nat} {t : TGs} {n : Nat} (hc : X.calm = true) (h : PGs X es t)
    (hn : (assignEach es X.env).length = n := by rfl) (hst : (assignEach es X.env).findIdx? (·.1) = none := by rfl) : PG X (.Tuple es k pos) (gTup X.K n t) := by
  intro pins s σ H v u Q I r hw
  obtain ⟨a, xs, e1, hq, hl, hw⟩ := hw
  subst e1
  cases r
  obtain ⟨its, rv, ht, hz⟩ := I.tuple hq
  refine assign_Tuple_tuple (I.ok.hd hc) ht (by simp [hn, ← hl, rv.length]) hst fun h' hx => ?_
  have I1 : Inv X pins σ H { s with heap := h' } := I.kept (t' := s.toks) fun b o e => hx b o (Nat.ne_of_lt (Heap.lt_size e)) e
  exact h pins _ σ H xs _ Q I1 (by simpa using rv) hw
noncomputable def gSub (to ti : TE) (t : TSet) : TG := fun v σ H Q => to σ H fun o H1 => ti σ H1 fun i H2 => t o i v H2 fun H3 => Q σ H3
theorem pg_sub {o i : Expr} {to ti : TE} {t : TSet} (ho : PE X o to) (hi : PE X i ti) (hs : PSet X t)
    (ha : ∀ v, assign (.Subscript o i pos) X.env v = (do
      let ov ← holding [v] (eval o X.env)
      let iv ← holding [v, ov] (eval i X.env)
      standAt pos
      holding [v, ov, iv] (setItem ov iv v)
      release [v, ov, iv] []) := by intro _; rfl) : PG X (.Subscript o i pos) (gSub to ti t) := by
  intro pins s σ H v u Q I r h
  rw [ha]
  refine wpAny_bind (wpAny_holding (thn (ho pins s σ H _ I h) fun ov s1 ⟨x, H1, I1, r1, q1⟩ => ?_))
  refine wpAny_bind (wpAny_holding (thn (hi pins s1 σ H1 _ I1 q1) fun iv s2 ⟨y, H2, I2, r2, q2⟩ => ?_))
  refine wpAny_bind (wpAny_standAt (wpAny_bind (wpAny_holding (thn (hs pins s2 σ H2 x y v ov iv u _ I2 r1 r2 r q2) fun _ s3 ⟨H3, I3, q3⟩ => ?_))))
  exact wpAny_release ⟨σ, H3, I3, q3⟩
noncomputable def tAsg (te : TE) (g : TG) : TS := fun D σ H => te σ H fun x H1 => g x σ H1 D.nx
theorem ps_asg {tg e : Expr} {te : TE} {g : TG} (he : PE X e te) (hg : PG X tg g) (hs : swapsWithSole [tg] e pos.line X.env = pure false := by rfl) (hw : swappedStores [tg] e X.env = pure none := by rfl)
    (h1 : (assignEach [tg] X.env).map (·.2) = [assign tg X.env] := by rfl) : PS X (.Assign [tg] e pos) (tAsg te g) := by
  intro pins s σ H D I h
  refine wpAny_Assign_stores (thn (he pins s σ H _ I h) fun v s1 ⟨x, H1, I1, r1, q1⟩ => ?_) hs hw
  rw [h1]
  exact thn (hg pins s1 σ H1 x v _ I1 r1 q1) fun _ s2 q => q
theorem ps_set {i : Nat} {x : Str} {e : Expr} {te : TE} {pos' : Pos} (hN : X.N.Nodup) (hi : X.N[i]? = some x) (hx : Loc X.env.scope x) (he : PE X e te) (hs : swapsWith e (some (.Name x pos')) pos.line X.env = pure false := by rfl) (hf : X.fn x = true ∨ X.env.scope.names.lookup x = some .local := by first | exact .inl rfl | exact .inr rfl | assumption) :
    PS X (.Assign [.Name x pos'] e pos) (tAsg te (gName i)) := by
  intro pins s σ H D I h
  refine wpAny_Assign_Name (thn (he pins s σ H _ I h) fun v s1 ⟨y, H1, I1, r1, q1⟩ => ?_) hs
  exact store_ok I1 hN hi hx r1 (fun s2 I2 => ⟨_, H1, I2, q1⟩) hf
end
section
variable {X : Cx} {pos : Pos}
end
structure It where
  go : Nat → Hp → Prop
  yld : Nat → Hp → V → Hp → Prop
  stop : Nat → Hp → Prop
noncomputable def FpOk (X : Cx) (pins : List (Addr × Obj)) (H : Hp) (b : Addr) : Prop :=
  H b = none ∧ b ≠ X.env.locals ∧ b ∉ X.fs ∧ (b ∈ X.ex ∨ X.s₀.heap.objs.size ≤ b) ∧ (∀ x c, X.env.cells.lookup x = some c → c ≠ b) ∧ ∀ p ∈ X.pn ++ pins, p.1 ≠ b
theorem Inv.fpOk {X : Cx} {pins : List (Addr × Obj)} {σ : St} {H H' : Hp} {s : Shared} {b : Addr} (I : Inv X pins σ H s) (hb : s.heap.objs.size ≤ b) (hn : H' b = none) : FpOk X pins H' b := by
  refine ⟨hn, Nat.ne_of_gt (Nat.lt_of_lt_of_le I.lt hb), I.nofs hb, .inr (Nat.le_trans I.sz hb), fun x c e z => ?_, fun p hp z => ?_⟩
  · obtain ⟨v, q⟩ := I.cell x c e
    exact absurd (Nat.lt_of_lt_of_le q.lt (by rw [z]; exact hb)) (Nat.lt_irrefl _)
  · exact absurd (Nat.lt_of_lt_of_le (Heap.lt_size (I.pin p hp).1) (by rw [z]; exact hb)) (Nat.lt_irrefl _)
structure Turn (P : Program) (w : World) (K : PySem.W.Frag) (tg : Expr) (J : It) (fp : List Addr) (it : Addr) (tn : Nat → Heap → Prop) : Prop where
  mem : it ∈ fp
  obj : ∀ i h, tn i h → ∀ b ∈ fp, ∃ o, h.get? b = some o ∧ ∀ v, o.data ≠ .cell v
  keep : ∀ i h h', tn i h → (∀ b ∈ fp, ∀ o, h.get? b = some o → h'.get? b = some o) → tn i h'
  item : ∀ (X : Cx), X.prog = P → X.w = w → X.K = K → X.calm = true → ∀ (i : Nat) (pins : List (Addr × Obj)) (s : Shared) (σ : St) (H : Hp) (E : Value → Shared → Prop), Inv X pins σ H s → (∀ b ∈ fp, FpOk X pins H b) → tn i s.heap → J.go i H →
    wpAny (model P w) X.A (pyNext (.ref it)) (fun r s1 => ∃ u, r = some u ∧
      wpAny (model P w) X.A (letOwnedTupleGo tg (.ref it) u) (fun _ s2 => ∃ x H', Inv X pins σ H' s2 ∧ RelV x u ∧ J.yld i H x H' ∧ tn (i + 1) s2.heap ∧ ∀ b ∈ fp, H' b = none) E s1) E s
  done : ∀ (X : Cx), X.prog = P → X.w = w → X.K = K → X.calm = true → ∀ (i : Nat) (pins : List (Addr × Obj)) (s : Shared) (σ : St) (H : Hp) (E : Value → Shared → Prop), Inv X pins σ H s → (∀ b ∈ fp, FpOk X pins H b) → tn i s.heap → J.stop i H →
    wpAny (model P w) X.A (pyNext (.ref it)) (fun r s1 => r = none ∧ Inv X pins σ H s1) E s
  self : ∀ (A : Around) (i : Nat) (s : Shared) (Q : Value → Shared → Prop) (E : Value → Shared → Prop), tn i s.heap → Q (.ref it) s → wpAny (model P w) A (pyIter (.ref it)) Q E s
noncomputable abbrev TI := St → Hp → (It → Hp → Prop) → Prop
noncomputable def PIE (X : Cx) (pins : List (Addr × Obj)) (σ : St) (tg : Expr) (R : It → Hp → Prop) (itv : Value) (s2 : Shared) : Prop :=
  ∃ (it : Addr) (fp : List Addr) (tn : Nat → Heap → Prop) (J : It) (H' : Hp), itv = .ref it ∧ Inv X pins σ H' s2 ∧ Turn X.prog X.w X.K tg J fp it tn ∧ tn 0 s2.heap ∧ (∀ b ∈ fp, FpOk X pins H' b) ∧ R J H'
noncomputable def PI (X : Cx) (tg iter : Expr) (wi : TI) : Prop :=
  ∀ (pins : List (Addr × Obj)) (s : Shared) (σ : St) (H : Hp) (R : It → Hp → Prop), Inv X pins σ H s → wi σ H R →
    wpAny (model X.prog X.w) X.A (eval iter X.env) (fun v s1 => wpAny (model X.prog X.w) X.A (pyIter v) (PIE X pins σ tg R) X.xe s1) X.xe s
theorem go_of {M : Model} {A : Around} {E : Value → Shared → Prop} {s : Shared} {tg : Expr} {it : Addr} {u : Value} {o : Obj} {n : String} {vs : Array Value} {Q : Unit → Shared → Prop} (ho : s.heap.get? it = some o) (hc : o.cls = .type n) (hd : o.data = .fields vs)
    (hn : ["enumerate", "zip", "dict_itemiterator", "dict_reverseitemiterator", "odict_iterator", "itertools.zip_longest", "itertools.pairwise"].contains n = false) (hQ : Q () s) : wpAny M A (letOwnedTupleGo tg (.ref it) u) Q E s := by
  unfold letOwnedTupleGo
  cases tg <;> first
    | exact wpAny_pure hQ
    | (cases u <;> first
        | exact wpAny_pure hQ
        | (refine wpAny_bind (wpAny_load ho ?_)
           rw [hc, hd]
           show wpAny M A (if (["enumerate", "zip", "dict_itemiterator", "dict_reverseitemiterator", "odict_iterator", "itertools.zip_longest", "itertools.pairwise"].contains n && vs[0]? == some (rawInt _)) = true then _ else _) Q E s
           rw [if_neg (by intro h; rw [hn, Bool.false_and] at h; cases h)]
           exact wpAny_pure hQ))
noncomputable def Itl (K : PySem.W.Frag) (a : Addr) : It :=
  ⟨fun i H => ∃ xs x, SqL K H a xs ∧ xs[i]? = some x, fun i H x H' => H' = H ∧ ∀ xs, SqL K H a xs → xs[i]? = some x, fun i H => ∃ xs, SqL K H a xs ∧ xs.length ≤ i⟩
noncomputable def Itt (K : PySem.W.Frag) (a : Addr) : It :=
  ⟨fun i H => ∃ xs x, SqT K H a xs ∧ xs[i]? = some x, fun i H x H' => H' = H ∧ ∀ xs, SqT K H a xs → xs[i]? = some x, fun i H => ∃ xs, SqT K H a xs ∧ xs.length ≤ i⟩
noncomputable def Itr (lo : Int) (n : Nat) : It := ⟨fun i _ => i < n, fun i H x H' => H' = H ∧ x = .int (lo + i), fun i _ => n ≤ i⟩
theorem turn_list {P : Program} {w : World} {K : PySem.W.Frag} {tg : Expr} (a it : Addr) : Turn P w K tg (Itl K a) [it] it (fun i h => h.IsListIter it a i) where
  mem := by simp
  obj := fun i h st b hb => by
    have e : b = it := by simpa using hb
    subst e
    obtain ⟨o, e, c, d⟩ := st
    exact ⟨o, e, fun v z => by rw [d] at z; cases z⟩
  keep := fun i h h' st k => st.at fun o e => k it (by simp) o e
  item := by
    intro X hP hw hK hc i pins s σ H E I hf st hg
    subst hP hw hK
    obtain ⟨xs, x, hq, hx⟩ := hg
    obtain ⟨its, rv, p, hz⟩ := I.list hq
    obtain ⟨u, hu, ru⟩ := rv.get hx
    obtain ⟨f0, f1, f2, f3, f4, f5⟩ := hf it (by simp)
    refine wpAny_pyNext_list_item st p.isList (x := u) (by simpa using hu) fun h' st' sb => ?_
    have I1 : Inv X pins σ H { s with heap := h' } := I.turned (t' := s.toks) (fun b o hb e => (sb.2 b hb).trans e) f0 f1 f3 f4 f5
    obtain ⟨o, e, c, d⟩ := id st'
    exact ⟨u, rfl, go_of (s := { s with heap := h' }) e c d (by decide) ⟨x, H, I1, ru, ⟨rfl, fun ys hy => by rw [I.list_inj hy hq]; exact hx⟩, st', fun b hb => (hf b hb).1⟩⟩
  done := by
    intro X hP hw hK hc i pins s σ H E I hf st hg
    subst hP hw hK
    obtain ⟨xs, hq, hx⟩ := hg
    obtain ⟨its, rv, p, hz⟩ := I.list hq
    obtain ⟨f0, f1, f2, f3, f4, f5⟩ := hf it (by simp)
    have hl := rv.length
    exact wpAny_pyNext_list_end (I.ok.hd hc) st p.isList (by simp; omega) fun h' eb => ⟨rfl, I.turned (t' := s.toks) (fun b o hb e => eb b o hb e) f0 f1 f3 f4 f5⟩
  self := fun _ _ _ _ _ st h => wpAny_pyIter_listiter st h
theorem turn_tuple {P : Program} {w : World} {K : PySem.W.Frag} {tg : Expr} (a it : Addr) : Turn P w K tg (Itt K a) [it] it (fun i h => h.IsTupleIter it a i) where
  mem := by simp
  obj := fun i h st b hb => by
    have e : b = it := by simpa using hb
    subst e
    obtain ⟨o, e, c, d⟩ := st
    exact ⟨o, e, fun v z => by rw [d] at z; cases z⟩
  keep := fun i h h' st k => st.at fun o e => k it (by simp) o e
  item := by
    intro X hP hw hK hc i pins s σ H E I hf st hg
    subst hP hw hK
    obtain ⟨xs, x, hq, hx⟩ := hg
    obtain ⟨its, rv, p, hz⟩ := I.tuple hq
    obtain ⟨u, hu, ru⟩ := rv.get hx
    obtain ⟨f0, f1, f2, f3, f4, f5⟩ := hf it (by simp)
    refine wpAny_pyNext_tuple_item st (show s.heap.IsTuple a its.toArray from p) (x := u) (by simpa using hu) fun h' st' sb => ?_
    have I1 : Inv X pins σ H { s with heap := h' } := I.turned (t' := s.toks) (fun b o hb e => (sb.2 b hb).trans e) f0 f1 f3 f4 f5
    obtain ⟨o, e, c, d⟩ := id st'
    exact ⟨u, rfl, go_of (s := { s with heap := h' }) e c d (by decide) ⟨x, H, I1, ru, ⟨rfl, fun ys hy => by rw [I.tuple_inj hy hq]; exact hx⟩, st', fun b hb => (hf b hb).1⟩⟩
  done := by
    intro X hP hw hK hc i pins s σ H E I hf st hg
    subst hP hw hK
    obtain ⟨xs, hq, hx⟩ := hg
    obtain ⟨its, rv, p, hz⟩ := I.tuple hq
    obtain ⟨f0, f1, f2, f3, f4, f5⟩ := hf it (by simp)
    have hl := rv.length
    exact wpAny_pyNext_tuple_end (I.ok.hd hc) st (show s.heap.IsTuple a its.toArray from p) (by simp; omega) fun h' eb => ⟨rfl, I.turned (t' := s.toks) (fun b o hb e => eb b o hb e) f0 f1 f3 f4 f5⟩
  self := fun _ _ _ _ _ st h => wpAny_pyIter_tupleiter st h
theorem turn_range {P : Program} {w : World} {K : PySem.W.Frag} {tg : Expr} (it : Addr) (lo : Int) (n : Nat) : Turn P w K tg (Itr lo n) [it] it (fun i h => IsRangeIter h it (lo + (i : Nat) * 1) ((n : Int) - (i : Nat)) 1) where
  mem := by simp
  obj := fun i h st b hb => by
    have e : b = it := by simpa using hb
    subst e
    exact ⟨_, st, fun v z => by
      have z' : Data.fields _ = Data.cell v := z
      cases z'⟩
  keep := fun i h h' st k => k it (by simp) _ st
  item := by
    intro X hP hw hK hc i pins s σ H E I hf st hg
    subst hP hw hK
    obtain ⟨f0, f1, f2, f3, f4, f5⟩ := hf it (by simp)
    have W := Walks.range (prog := X.prog) (w := X.w) (I.ok.hd hc) it lo 1 n
    refine W.item i s _ _ hg st fun v h' tk hv st' kk => ?_
    obtain ⟨t, rfl⟩ := hv
    have I1 : Inv X pins σ H { s with heap := h', toks := tk } := I.turned (fun b o hb e => kk b o (by simpa using hb) e) f0 f1 f3 f4 f5
    refine ⟨_, rfl, go_of (s := { s with heap := h', toks := tk }) (n := "range_iterator") st' rfl rfl (by decide) ⟨.int (lo + i), H, I1, ⟨t, ?_⟩, ⟨rfl, rfl⟩, st', fun b hb => (hf b hb).1⟩⟩
    rw [Int.mul_one]
  done := by
    intro X hP hw hK hc i pins s σ H E I hf st hg
    subst hP hw hK
    obtain ⟨f0, f1, f2, f3, f4, f5⟩ := hf it (by simp)
    exact wpAny_pyNext_range_end (I.ok.hd hc) st (by have : n ≤ i := hg; omega) fun h' eb => ⟨rfl, I.turned (t' := s.toks) (fun b o hb e => eb b o hb e) f0 f1 f3 f4 f5⟩
  self := fun _ _ _ _ _ st h => wpAny_pyIter_rangeiter st h
end L2
namespace L2
open PySem PySem.Spec PyProof.Rows
section
variable {X : Cx} {tg : Expr}
theorem range_it {pins : List (Addr × Obj)} {σ : St} {H : Hp} {s : Shared} {R : It → Hp → Prop} {E : Value → Shared → Prop} {lo hi : Int} {t u v : Tok} {tk : Nat} (I : Inv X pins σ H s) (h1 : -(2 ^ 62) ≤ lo) (h2 : lo < 2 ^ 62) (h3 : -(2 ^ 62) ≤ hi) (h4 : hi < 2 ^ 62)
    (q : R (Itr lo (hi - lo).toNat) H) : wpAny (model X.prog X.w) X.A (pyIter (.ref s.heap.objs.size)) (PIE X pins σ tg R) E { s with heap := s.heap.push { cls := .type "range", data := .fields #[.int lo t, .int hi u, .int 1 v] }, toks := tk } := by
  refine wpAny_pyIter_range (IsRange.new ..) (small_one h1 h2 h3 h4) ?_
  have I1 : Inv X pins σ H { s with heap := s.heap.push { cls := .type "range", data := .fields #[.int lo t, .int hi u, .int 1 v] }, toks := tk } := I.kept fun b o e => Heap.get?_push_of_some _ e
  refine ⟨(s.heap.push { cls := .type "range", data := .fields #[.int lo t, .int hi u, .int 1 v] }).objs.size, [(s.heap.push { cls := .type "range", data := .fields #[.int lo t, .int hi u, .int 1 v] }).objs.size], _, _, H, rfl,
    I1.kept (t' := tk) fun b o e => Heap.get?_push_of_some _ e, turn_range _ lo (hi - lo).toNat, ?_, fun b hb => ?_, q⟩
  · have e1 : lo + ((0 : Nat) : Int) * 1 = lo := by simp
    have e2 : (((hi - lo).toNat : Nat) : Int) - ((0 : Nat) : Int) = Builtin.Range.rangeSize lo hi 1 := by rw [rangeSize_one]; split <;> omega
    show IsRangeIter _ _ (lo + ((0 : Nat) : Int) * 1) ((((hi - lo).toNat : Nat) : Int) - ((0 : Nat) : Int)) 1
    rw [e1, e2]
    exact Heap.get?_push_size _ rfl
  · have e : b = (s.heap.push { cls := .type "range", data := .fields #[.int lo t, .int hi u, .int 1 v] }).objs.size := by simpa using hb
    subst e
    exact I1.fpOk (Nat.le_refl _) (I1.hok.fresh (Nat.le_refl _))
noncomputable def iRng1 (ta : TA) : TI := fun σ H R => ta σ H fun vs H1 => ∃ j : Int, vs = [.int j] ∧ -(2 ^ 62) ≤ j ∧ j < 2 ^ 62 ∧ R (Itr 0 j.toNat) H1
theorem pi_range1 {a : Expr} {ta : TA} {p pos : Pos} (hg : Gl X "range") (hm : X.mg "range" = none) (ha : PA X [a] ta) (hs : starEach [a] X.env = [(false, eval a X.env)] := by rfl) : PI X tg (.Call (.Name "range" p) [a] [] pos) (iRng1 ta) := by
  intro pins s σ H R I h
  refine Call_ (ld_blt I hg hm boot_range (PyProof.Rows.callWith_type1 (thn (ha pos pins s σ H _ I h) fun us s1 ⟨vs, H1, I1, r1, q1⟩ => ?_) hs rfl))
  obtain ⟨j, e, q1, q2, q⟩ := q1
  subst e
  cases r1 with
  | cons r rr =>
    cases rr
    obtain ⟨t, rfl⟩ := r
    exact call_range_1 (range_it I1 (by omega) (by omega) q1 q2 (by simpa using q))
noncomputable def tFor (wi : TI) (g : TG) (tb : TS) : TS := fun D σ H => wi σ H fun J H1 => ∃ W : Nat → Nat → St → Hp → Prop, (∃ m, W 0 m σ H1) ∧ ∀ i m σ H, W i m σ H →
  (J.stop i H ∧ D.nx σ H) ∨ (J.go i H ∧ ∃ N : St → Hp → Prop, (∀ σ' H', N σ' H' → ∃ m', m' < m ∧ W (i + 1) m' σ' H') ∧ ∀ x H', J.yld i H x H' → g x σ H' fun σ2 H2 => tb { D with nx := N, ct := N, bk := D.nx } σ2 H2)
noncomputable def pinsAt (fp : List Addr) (h : Heap) : List (Addr × Obj) := fp.filterMap fun b => (h.get? b).map fun o => (b, o)
theorem mem_pinsAt {fp : List Addr} {h : Heap} {b : Addr} {o : Obj} (hb : b ∈ fp) (e : h.get? b = some o) : (b, o) ∈ pinsAt fp h := List.mem_filterMap.mpr ⟨b, hb, by rw [e]; rfl⟩
theorem of_pinsAt {fp : List Addr} {h : Heap} {p : Addr × Obj} (hp : p ∈ pinsAt fp h) : p.1 ∈ fp ∧ h.get? p.1 = some p.2 := by
  obtain ⟨b, hb, e⟩ := List.mem_filterMap.mp hp
  cases q : h.get? b with
  | none => rw [q] at e; cases e
  | some o =>
    rw [q] at e
    have e' : (b, o) = p := Option.some.inj e
    subst e'
    exact ⟨hb, q⟩
theorem Inv.pinned {pins : List (Addr × Obj)} {σ : St} {H : Hp} {s : Shared} {fp : List Addr} (I : Inv X pins σ H s) (hf : ∀ b ∈ fp, FpOk X pins H b) (ho : ∀ b ∈ fp, ∃ o, s.heap.get? b = some o ∧ ∀ v, o.data ≠ .cell v) : Inv X (pins ++ pinsAt fp s.heap) σ H s :=
  I.pins_of fun p hp => (List.mem_append.mp hp).elim (fun z => I.pin p (List.mem_append_right _ z)) fun z => by
    obtain ⟨hb, e⟩ := of_pinsAt z
    obtain ⟨f0, f1, f2, _⟩ := hf p.1 hb
    obtain ⟨o, e', d⟩ := ho p.1 hb
    rw [e] at e'; cases e'
    exact ⟨e, f0, f1, f2, d⟩
theorem Inv.unpinned {pins pl : List (Addr × Obj)} {σ : St} {H : Hp} {s : Shared} (I : Inv X (pins ++ pl) σ H s) : Inv X pins σ H s := I.pins_of fun p hp => I.pin p (List.mem_append_right _ (List.mem_append_left _ hp))
theorem ps_for {iter : Expr} {body : List Stmt} {wi : TI} {g : TG} {tb : TS} {pos : Pos} (hp : PassesOwn (model X.prog X.w) X.A X.env X.xe) (hc : X.calm = true) (hi : PI X tg iter wi) (hg : PG X tg g) (hb : PSs X body tb)
    (hs : ∀ x, foldedSetIterable iter X.env x = pure x := by intro _; rfl) : PS X (.For tg iter body [] pos) (tFor wi g tb) := by
  intro pins s σ H D I h
  refine wpAny_For (thn (hi pins s σ H _ I h) fun v s1 h1 => thn h1 fun itv s2 h2 => ?_) hs
  obtain ⟨it, fp, tn, J, H2, e, I2, T, st2, f2, W, ⟨m0, w0⟩, turn⟩ := h2
  subst e
  -- what stays true of the iterator's objects through the loop
  have stat : ∀ {H' : Hp}, (∀ b ∈ fp, H' b = none) → ∀ b ∈ fp, FpOk X pins H' b := fun hn b hb => ⟨hn b hb, (f2 b hb).2⟩
  refine codeAny_forLoop_any (fun n s' => ∃ i σ' H', Inv X pins σ' H' s' ∧ tn i s'.heap ∧ (∀ b ∈ fp, H' b = none) ∧ W i n σ' H') ?_ m0 ⟨0, σ, H2, I2, st2, fun b hb => (f2 b hb).1, w0⟩
  rintro n s3 ⟨i, σ3, H3, I3, st3, fr3, w3⟩
  rcases turn i n σ3 H3 w3 with ⟨stop, qn⟩ | ⟨go, N, hN, step⟩
  · refine wpAny_passesOwn hp (thn (T.done X rfl rfl rfl hc i pins s3 σ3 H3 X.xe I3 (stat fr3) st3 stop) fun r s4 ⟨hr, I4⟩ => ?_)
    subst hr
    exact wpAny_execs_nil ⟨σ3, H3, I4, qn⟩
  · refine wpAny_passesOwn hp (thn (T.item X rfl rfl rfl hc i pins s3 σ3 H3 X.xe I3 (stat fr3) st3 go) fun r s4 ⟨u, hr, h4⟩ => ?_)
    subst hr
    refine wpAny_passesOwn hp (thn h4 fun _ s5 ⟨x, H5, I5, r5, y5, st5, fr5⟩ => ?_)
    have I5' := I5.pinned (stat fr5) (T.obj _ _ st5)
    refine wpAny_passesOwn hp (thn (hg _ s5 σ3 H5 x u _ I5' r5 (step x H5 y5)) fun _ s6 ⟨σ6, H6, I6, q6⟩ => ?_)
    refine wpAny_passesOwn hp (thn (hb _ s6 σ6 H6 _ I6 q6) fun f s7 q7 => ?_)
    have again : ∀ {σ7 : St} {H7 : Hp}, Inv X (pins ++ pinsAt fp s5.heap) σ7 H7 s7 → N σ7 H7 → ∃ m, m < n ∧ ∃ i σ' H', Inv X pins σ' H' s7 ∧ tn i s7.heap ∧ (∀ b ∈ fp, H' b = none) ∧ W i m σ' H' := fun {σ7 H7} I7 n7 => by
      obtain ⟨m', hm, w7⟩ := hN σ7 H7 n7
      refine ⟨m', hm, i + 1, σ7, H7, I7.unpinned, T.keep _ _ _ st5 fun b hb o e => (I7.pin (b, o) (List.mem_append_right _ (List.mem_append_right _ (mem_pinsAt hb e)))).1, fun b hb => ?_, w7⟩
      obtain ⟨o, e, d⟩ := T.obj _ _ st5 b hb
      exact (I7.pin (b, o) (List.mem_append_right _ (List.mem_append_right _ (mem_pinsAt hb e)))).2.1
    cases f with
    | next => obtain ⟨σ7, H7, I7, n7⟩ := q7; exact again I7 n7
    | cont => obtain ⟨σ7, H7, I7, n7⟩ := q7; exact again I7 n7
    | brk => obtain ⟨σ7, H7, I7, q7⟩ := q7; exact ⟨σ7, H7, I7.unpinned, q7⟩
    | ret v => obtain ⟨x7, σ7, H7, I7, r7, q7⟩ := q7; exact ⟨x7, σ7, H7, I7.unpinned, r7, q7⟩
end
end L2
namespace L2
open PySem PySem.Spec PyProof.Rows
noncomputable abbrev R2 := V → V → Hp → VK → Prop
noncomputable def OpR (X : Cx) (f : Value → Value → Sem Value) (r : R2) : Prop :=
  ∀ (pins : List (Addr × Obj)) (s : Shared) (σ : St) (H : Hp) (x y : V) (v u : Value) (Q : VK), Inv X pins σ H s → RelV x v → RelV y u → r x y H Q →
    wpAny (model X.prog X.w) X.A (f v u) (EP X pins σ Q) X.xe s
noncomputable def UnR (X : Cx) (f : Value → Sem Value) (r : V → Hp → VK → Prop) : Prop :=
  ∀ (pins : List (Addr × Obj)) (s : Shared) (σ : St) (H : Hp) (x : V) (v : Value) (Q : VK), Inv X pins σ H s → RelV x v → r x H Q →
    wpAny (model X.prog X.w) X.A (f v) (EP X pins σ Q) X.xe s
noncomputable def CallR (X : Cx) (f : Value) (r : List V → Hp → VK → Prop) : Prop :=
  ∀ (pins : List (Addr × Obj)) (s : Shared) (σ : St) (H : Hp) (xs : List V) (us : List Value) (Q : VK), Inv X pins σ H s → Vals xs us → r xs H Q →
    wpAny (model X.prog X.w) X.A (call f us) (EP X pins σ Q) X.xe s
noncomputable def TruR (X : Cx) (r : V → Hp → (Bool → Hp → Prop) → Prop) : Prop :=
  ∀ (pins : List (Addr × Obj)) (s : Shared) (σ : St) (H : Hp) (x : V) (v : Value) (Q : Bool → Hp → Prop), Inv X pins σ H s → RelV x v → r x H Q →
    wpAny (model X.prog X.w) X.A (truthy v) (TP X pins σ Q) X.xe s
noncomputable def tOp (r : R2) (ta tb : TE) : TE := fun σ H Q => ta σ H fun x H1 => tb σ H1 fun y H2 => r x y H2 Q
noncomputable def tUn (r : V → Hp → VK → Prop) (ta : TE) : TE := fun σ H Q => ta σ H fun x H1 => r x H1 Q
noncomputable def rI (C : Int → Int → Prop) (g : Int → Int → V) : R2 := fun x y H Q => ∃ i j, x = .int i ∧ y = .int j ∧ C i j ∧ Q (g i j) H
noncomputable def rI0 (g : Int → Int → V) : R2 := fun x y H Q => ∃ i j, x = .int i ∧ y = .int j ∧ Q (g i j) H
noncomputable def rU (g : Int → V) : V → Hp → VK → Prop := fun x H Q => ∃ i, x = .int i ∧ Q (g i) H
section
variable {X : Cx} {a b c : Expr} {ta tb tc : TE} {pos : Pos}
theorem binT (ha : PE X a ta) (hb : PE X b tb) {pins : List (Addr × Obj)} {s : Shared} {σ : St} {H : Hp} {R : V → V → Hp → Prop} (I : Inv X pins σ H s)
    (h : ta σ H fun x H1 => tb σ H1 fun y H2 => R x y H2) {Q : Value → Shared → Prop} {f : Value → Value → Sem Value}
    (hf : ∀ v u s2 x y H2, Inv X pins σ H2 s2 → RelV x v → RelV y u → R x y H2 → wpAny (model X.prog X.w) X.A (f v u) Q X.xe s2) :
    wpAny (model X.prog X.w) X.A (eval a X.env) (fun v s₁ => wpAny (model X.prog X.w) X.A (eval b X.env) (fun u s₂ => wpAny (model X.prog X.w) X.A (f v u) Q X.xe s₂) X.xe s₁) X.xe s := by
  refine thn (ha pins s σ H _ I h) fun v s1 hq1 => ?_
  obtain ⟨x, H1, I1, r1, q1⟩ := hq1
  refine thn (hb pins s1 σ H1 _ I1 q1) fun u s2 hq2 => ?_
  obtain ⟨y, H2, I2, r2, q2⟩ := hq2
  exact hf v u s2 x y H2 I2 r1 r2 q2
theorem pe_op {op : Operator} {r : R2} (ho : OpR X (binaryOp op) r) (ha : PE X a ta) (hb : PE X b tb) : PE X (.BinOp a op b pos) (tOp r ta tb) := by
  intro pins s σ H Q I h
  exact wpAny_BinOp (binT ha hb I h fun v u s2 x y H2 I2 rx ry q => ho pins s2 σ H2 x y v u Q I2 rx ry q)
theorem pe_un {op : UnaryOp} {r : V → Hp → VK → Prop} (ho : UnR X (unaryOp op) r) (ha : PE X a ta) : PE X (.UnaryOp op a pos) (tUn r ta) := by
  intro pins s σ H Q I h
  exact UnaryOp_ (thn (ha pins s σ H _ I h) fun v s1 ⟨x, H1, I1, r1, q1⟩ => ho pins s1 σ H1 x v Q I1 r1 q1)
theorem opI {f : Value → Value → Sem Value} {C : Int → Int → Prop} {g : Int → Int → Int}
    (rule : ∀ (i j : Int) (t u : Tok) (s : Shared) (Q : Value → Shared → Prop) (E : Value → Shared → Prop), C i j → Q (.int (g i j) s.toks) { s with toks := s.toks + 1 } → wpAny (model X.prog X.w) X.A (f (.int i t) (.int j u)) Q E s) :
    OpR X f (rI C fun i j => .int (g i j)) := by
  intro pins s σ H x y v u Q I rx ry h
  obtain ⟨i, j, rfl, rfl, hc, q⟩ := h
  obtain ⟨t, rfl⟩ := rx
  obtain ⟨t', rfl⟩ := ry
  exact rule i j t t' s _ _ hc ⟨.int (g i j), H, I.tok _, ⟨_, rfl⟩, q⟩
theorem opI0 {f : Value → Value → Sem Value} {g : Int → Int → Int}
    (rule : ∀ (i j : Int) (t u : Tok) (s : Shared) (Q : Value → Shared → Prop) (E : Value → Shared → Prop), Q (.int (g i j) s.toks) { s with toks := s.toks + 1 } → wpAny (model X.prog X.w) X.A (f (.int i t) (.int j u)) Q E s) :
    OpR X f (rI0 fun i j => .int (g i j)) := by
  intro pins s σ H x y v u Q I rx ry h
  obtain ⟨i, j, rfl, rfl, q⟩ := h
  obtain ⟨t, rfl⟩ := rx
  obtain ⟨t', rfl⟩ := ry
  exact rule i j t t' s _ _ ⟨.int (g i j), H, I.tok _, ⟨_, rfl⟩, q⟩
theorem opB0 {f : Value → Value → Sem Value} {g : Int → Int → Bool}
    (rule : ∀ (i j : Int) (t u : Tok) (s : Shared) (Q : Value → Shared → Prop) (E : Value → Shared → Prop), Q (.bool (g i j)) s → wpAny (model X.prog X.w) X.A (f (.int i t) (.int j u)) Q E s) :
    OpR X f (rI0 fun i j => .bl (g i j)) := by
  intro pins s σ H x y v u Q I rx ry h
  obtain ⟨i, j, rfl, rfl, q⟩ := h
  obtain ⟨t, rfl⟩ := rx
  obtain ⟨t', rfl⟩ := ry
  exact rule i j t t' s _ _ ⟨.bl (g i j), H, I, rfl, q⟩
noncomputable def CDiv (i j : Int) : Prop := 0 < j ∧ j < 1073741824
noncomputable def CPow (i j : Int) : Prop := 0 ≤ j ∧ j ≤ 1000000 ∧ i.natAbs < 2 ^ 64
noncomputable def CMul (i j : Int) : Prop := (-(2 ^ 64) < i ∧ i < 2 ^ 64) ∨ (-(2 ^ 64) < j ∧ j < 2 ^ 64)
theorem CMul.ok {i j : Int} (h : CMul i j) : IntMulOk i j := by
  rcases h with ⟨h1, h2⟩ | ⟨h1, h2⟩
  · exact .of_left (intBits_le_64 h1 h2)
  · exact .of_right (intBits_le_64 h1 h2)
theorem op_add : OpR X (binaryOp .Add) (rI0 fun i j => .int (i + j)) := opI0 fun _ _ _ _ _ _ _ q => add_int q
theorem op_sub : OpR X (binaryOp .Sub) (rI0 fun i j => .int (i - j)) := opI0 fun _ _ _ _ _ _ _ q => sub_int q
theorem op_fdiv : OpR X (binaryOp .FloorDiv) (rI CDiv fun i j => .int (i / j)) := opI fun i j _ _ _ _ _ hc q => by
  have h1 : (0 : Int) < j := hc.1
  have h2 : j < 1073741824 := hc.2
  exact floordiv_int (by omega) (by rw [Int.fdiv_eq_ediv_of_nonneg i (by omega)]; exact q) (.inl (PyProof.noPylong_small (by omega)))
theorem op_mod : OpR X (binaryOp .Mod) (rI (fun _ j => 0 < j) fun i j => .int (i % j)) := opI fun i j _ _ _ _ _ hc q => by
  have h1 : (0 : Int) < j := hc
  exact mod_int' (by omega) (by rw [Int.fmod_eq_emod_of_nonneg i (by omega)]; exact q)
theorem op_pow : OpR X (binaryOp .Pow) (rI CPow fun i j => .int (i ^ j.toNat)) := opI fun _ _ _ _ _ _ _ hc q => pow_int_small hc.1 hc.2.1 hc.2.2 q
theorem unI {f : Value → Sem Value} {g : Int → Int}
    (rule : ∀ (i : Int) (t : Tok) (s : Shared) (Q : Value → Shared → Prop) (E : Value → Shared → Prop), Q (.int (g i) s.toks) { s with toks := s.toks + 1 } → wpAny (model X.prog X.w) X.A (f (.int i t)) Q E s) :
    UnR X f (rU fun i => .int (g i)) := by
  intro pins s σ H x v Q I rx h
  obtain ⟨i, rfl, q⟩ := h
  obtain ⟨t, rfl⟩ := rx
  exact rule i t s _ _ ⟨.int (g i), H, I.tok _, ⟨_, rfl⟩, q⟩
theorem un_neg : UnR X (unaryOp .USub) (rU fun i => .int (-i)) := unI fun _ _ _ _ _ q => neg_int q
end
noncomputable def scal : V → V → Bool
  | .non, .non => true | .non, .int _ => true | .int _, .non => true | .non, .bl _ => true | .bl _, .non => true | .non, .str _ => true | .str _, .non => true
  | .int _, .int _ => true | .bl _, .bl _ => true | .str _, .str _ => true | .byt _, .byt _ => true
  | .int _, .str _ => true | .str _, .int _ => true | .bl _, .str _ => true | .str _, .bl _ => true
  | _, _ => false
noncomputable def rEq : R2 := fun x y H Q => scal x y = true ∧ Q (.bl (decide (x = y))) H
noncomputable def rNe : R2 := fun x y H Q => scal x y = true ∧ Q (.bl (!decide (x = y))) H
theorem dec_int {i j : Int} : decide (V.int i = V.int j) = (i == j) := by
  rw [Bool.eq_iff_iff]
  simp
theorem dec_bl {i j : Bool} : decide (V.bl i = V.bl j) = (i == j) := by
  rw [Bool.eq_iff_iff]
  simp
theorem dec_str {i j : Str} : decide (V.str i = V.str j) = (i == j) := by
  rw [Bool.eq_iff_iff]
  simp
theorem dec_byt {i j : Array UInt8} : decide (V.byt i = V.byt j) = (i.toList == j.toList) := by
  rw [Bool.eq_iff_iff]
  cases i
  cases j
  simp
section
variable {X : Cx} {a b c : Expr} {ta tb tc : TE} {pos : Pos}
theorem fin_bl {pins : List (Addr × Obj)} {σ : St} {H : Hp} {s : Shared} {Q : VK} {k k' : Bool} (I : Inv X pins σ H s) (q : Q (.bl k) H) (e : k = k') : EP X pins σ Q (.bool k') s := by
  subst e
  exact ⟨.bl k, H, I, rfl, q⟩
theorem op_eq : OpR X (compareOp .Eq) rEq := by
  intro pins s σ H x y v u Q I rx ry h
  obtain ⟨hs, q⟩ := h
  cases x with
  | non =>
    cases rx
    cases y with
    | non => cases ry; exact PySem.EqNone.eq_none_none (fin_bl I q (by simp))
    | bl j => cases ry; exact PySem.EqNone.eq_none_bool (fin_bl I q (by simp))
    | int j => obtain ⟨t', rfl⟩ := ry; exact PySem.EqNone.eq_none_int (fin_bl I q (by simp))
    | str j => obtain ⟨t', rfl⟩ := ry; exact PySem.EqNone.eq_none_str (fin_bl I q (by simp))
    | _ => exact absurd (show false = true from hs) Bool.false_ne_true
  | bl i =>
    cases rx
    cases y with
    | non => cases ry; exact PySem.EqNone.eq_bool_none (fin_bl I q (by simp))
    | bl j => cases ry; exact eq_bool (fin_bl I q dec_bl)
    | str j => obtain ⟨t', rfl⟩ := ry; exact PySem.EqMixed.eq_bool_str (fin_bl I q (by simp))
    | _ => exact absurd (show false = true from hs) Bool.false_ne_true
  | int i =>
    obtain ⟨t, rfl⟩ := rx
    cases y with
    | non => cases ry; exact PySem.EqNone.eq_int_none (fin_bl I q (by simp))
    | int j => obtain ⟨t', rfl⟩ := ry; exact eq_int (fin_bl I q dec_int)
    | str j => obtain ⟨t', rfl⟩ := ry; exact PySem.EqMixed.eq_int_str (fin_bl I q (by simp))
    | _ => exact absurd (show false = true from hs) Bool.false_ne_true
  | str i =>
    obtain ⟨t, rfl⟩ := rx
    cases y with
    | non => cases ry; exact PySem.EqNone.eq_str_none (fin_bl I q (by simp))
    | bl j => cases ry; exact PySem.EqMixed.eq_str_bool (fin_bl I q (by simp))
    | int j => obtain ⟨t', rfl⟩ := ry; exact PySem.EqMixed.eq_str_int (fin_bl I q (by simp))
    | str j => obtain ⟨t', rfl⟩ := ry; exact eq_str (fin_bl I q dec_str)
    | _ => exact absurd (show false = true from hs) Bool.false_ne_true
  | byt i =>
    obtain ⟨t, rfl⟩ := rx
    cases y with
    | byt j => obtain ⟨t', rfl⟩ := ry; exact PySem.W.eq_bytes (fin_bl I q dec_byt)
    | _ => exact absurd (show false = true from hs) Bool.false_ne_true
  | _ => cases y <;> exact absurd (show false = true from hs) Bool.false_ne_true
theorem op_ne : OpR X (compareOp .NotEq) rNe := by
  intro pins s σ H x y v u Q I rx ry h
  obtain ⟨hs, q⟩ := h
  cases x with
  | non =>
    cases rx
    cases y with
    | non => cases ry; exact PySem.EqNone.ne_none_none (fin_bl I q (by simp))
    | bl j => cases ry; exact PySem.EqNone.ne_none_bool (fin_bl I q (by simp))
    | int j => obtain ⟨t', rfl⟩ := ry; exact PySem.EqNone.ne_none_int (fin_bl I q (by simp))
    | str j => obtain ⟨t', rfl⟩ := ry; exact PySem.EqNone.ne_none_str (fin_bl I q (by simp))
    | _ => exact absurd (show false = true from hs) Bool.false_ne_true
  | bl i =>
    cases rx
    cases y with
    | non => cases ry; exact PySem.EqNone.ne_bool_none (fin_bl I q (by simp))
    | bl j => cases ry; exact ne_bool (fin_bl I q (congrArg not dec_bl))
    | str j => obtain ⟨t', rfl⟩ := ry; exact PySem.EqMixed.ne_bool_str (fin_bl I q (by simp))
    | _ => exact absurd (show false = true from hs) Bool.false_ne_true
  | int i =>
    obtain ⟨t, rfl⟩ := rx
    cases y with
    | non => cases ry; exact PySem.EqNone.ne_int_none (fin_bl I q (by simp))
    | int j => obtain ⟨t', rfl⟩ := ry; exact ne_int (fin_bl I q (congrArg not dec_int))
    | str j => obtain ⟨t', rfl⟩ := ry; exact PySem.EqMixed.ne_int_str (fin_bl I q (by simp))
    | _ => exact absurd (show false = true from hs) Bool.false_ne_true
  | str i =>
    obtain ⟨t, rfl⟩ := rx
    cases y with
    | non => cases ry; exact PySem.EqNone.ne_str_none (fin_bl I q (by simp))
    | bl j => cases ry; exact PySem.EqMixed.ne_str_bool (fin_bl I q (by simp))
    | int j => obtain ⟨t', rfl⟩ := ry; exact PySem.EqMixed.ne_str_int (fin_bl I q (by simp))
    | str j => obtain ⟨t', rfl⟩ := ry; exact ne_str (fin_bl I q (congrArg not dec_str))
    | _ => exact absurd (show false = true from hs) Bool.false_ne_true
  | byt i =>
    obtain ⟨t, rfl⟩ := rx
    cases y with
    | byt j => obtain ⟨t', rfl⟩ := ry; exact PySem.W.ne_bytes (fin_bl I q (congrArg not dec_byt))
    | _ => exact absurd (show false = true from hs) Bool.false_ne_true
  | _ => cases y <;> exact absurd (show false = true from hs) Bool.false_ne_true
theorem op_lt : OpR X (compareOp .Lt) (rI0 fun i j => .bl (decide (i < j))) := opB0 fun _ _ _ _ _ _ _ q => lt_int q
theorem op_le : OpR X (compareOp .LtE) (rI0 fun i j => .bl (decide (i ≤ j))) := opB0 fun _ _ _ _ _ _ _ q => le_int q
theorem op_gt : OpR X (compareOp .Gt) (rI0 fun i j => .bl (decide (j < i))) := opB0 fun _ _ _ _ _ _ _ q => gt_int q
theorem op_ge : OpR X (compareOp .GtE) (rI0 fun i j => .bl (decide (j ≤ i))) := opB0 fun _ _ _ _ _ _ _ q => ge_int q
theorem op_isN : OpR X (compareOp .Is) (fun x y H Q => y = .non ∧ Q (.bl (decide (x = .non))) H) := by
  intro pins s σ H x y v u Q I rx ry h
  obtain ⟨rfl, q⟩ := h
  cases ry
  refine is_none_gen (fin_bl I q ?_)
  cases x <;> first
    | (cases rx; rfl)
    | (obtain ⟨t, rfl⟩ := rx; rfl)
theorem OpR.or {f : Value → Value → Sem Value} {r r' : R2} (h : OpR X f r) (h' : OpR X f r') : OpR X f (fun x y H Q => r x y H Q ∨ r' x y H Q) := by
  intro pins s σ H x y v u Q I rx ry q
  rcases q with q | q
  · exact h pins s σ H x y v u Q I rx ry q
  · exact h' pins s σ H x y v u Q I rx ry q
theorem nomark (b : Expr) {op : CmpOp} (h : op ≠ .In := by decide) (h2 : op ≠ .NotIn := by decide) : behindInMarks op b = false := by
  have e1 : (op == CmpOp.In) = false := by cases op <;> first | rfl | exact absurd rfl h
  have e2 : (op == CmpOp.NotIn) = false := by cases op <;> first | rfl | exact absurd rfl h2
  cases b <;> simp [behindInMarks, e1, e2]
theorem pe_cmpR {op : CmpOp} {r : R2} (ho : OpR X (compareOp op) r) (ha : PE X a ta) (hb : PE X b tb) (hm : behindInMarks op b = false) : PE X (.Compare a [op] [b] pos) (tOp r ta tb) := by
  intro pins s σ H Q I h
  exact wpAny_Compare1 (binT ha hb I h fun v u s2 x y H2 I2 rx ry q => ho pins s2 σ H2 x y v u Q I2 rx ry q) hm
noncomputable def tTest (t : TE) : TT := fun σ H Q => t σ H fun x H' => ∃ k, x = .bl k ∧ Q k H'
theorem pt_cmpR {op : CmpOp} {r : R2} (ho : OpR X (compareOp op) r) (ha : PE X a ta) (hb : PE X b tb) (hm : behindInMarks op b = false) : PT X (.Compare a [op] [b] pos) (tTest (tOp r ta tb)) := by
  intro pins s σ H Q I h
  refine wpAny_isTrue_Compare1 (thn (ha pins s σ H _ I h) fun v s1 ⟨x, H1, I1, r1, q1⟩ => thn (hb pins s1 σ H1 _ I1 q1) fun u s2 ⟨y, H2, I2, r2, q2⟩ =>
    thn (ho pins s2 σ H2 x y v u _ I2 r1 r2 q2) fun c s3 ⟨z, H3, I3, r3, k, e, q3⟩ => ?_) hm
  subst e
  cases r3
  exact wpAny_truthy_bool ⟨H3, I3, q3⟩
noncomputable def tChain (r r' : R2) (ta tb tc : TE) : TE := fun σ H Q => ta σ H fun x H1 => tb σ H1 fun y H2 => r x y H2 fun z H3 => ∃ k, z = .bl k ∧
  (if k = true then tc σ H3 fun w' H4 => r' y w' H4 Q else Q (.bl false) H3)
theorem pe_chain {op op' : CmpOp} {r r' : R2} (ho : OpR X (compareOp op) r) (ho' : OpR X (compareOp op') r') (ha : PE X a ta) (hb : PE X b tb) (hc : PE X c tc)
    (hm : lastMarks [op, op'] [b, c] = false := by with_unfolding_all rfl) : PE X (.Compare a [op, op'] [b, c] pos) (tChain r r' ta tb tc) := by
  intro pins s σ H Q I h
  refine Compare_chain (thn (ha pins s σ H _ I h) fun v s1 ⟨x, H1, I1, r1, q1⟩ => chain_link (thn (hb pins s1 σ H1 _ I1 q1) fun u s2 ⟨y, H2, I2, r2, q2⟩ =>
    thn (ho pins s2 σ H2 x y v u _ I2 r1 r2 q2) fun d s3 ⟨z, H3, I3, r3, k, e, q3⟩ => ?_)) hm
  subst e
  cases r3
  refine wpAny_truthy_bool ?_
  cases k with
  | false => exact ite_ff ⟨.bl false, H3, I3, rfl, q3⟩
  | true => exact ite_tt (chain_last (thn (hc pins s3 σ H3 _ I3 q3) fun w' s4 ⟨z', H4, I4, r4, q4⟩ => ho' pins s4 σ H4 y z' u w' Q I4 r2 r4 q4))
noncomputable def TruV (K : PySem.W.Frag) (x : V) (H : Hp) (k : Bool) : Prop :=
  match x with
  | .non => k = false
  | .bl b => k = b
  | .int i => k = (i != 0)
  | .str y => y.length ≤ sizeLine ∧ k = ((y.length : Int) != 0)
  | .byt y => y.size ≤ sizeLine ∧ k = ((y.size : Int) != 0)
  | .ref p => (∃ xs, SqL K H p xs ∧ k = !xs.isEmpty) ∨ (∃ xs, SqT K H p xs ∧ k = !xs.isEmpty) ∨ ∃ kvs, H p = some (.dK kvs) ∧ k = !kvs.isEmpty
  | _ => False
theorem isEmpty_kv {κ : Type} {kvs : List (κ × V)} {vs : List (κ × Value)} (r : KV kvs vs) : (!vs.isEmpty) = !kvs.isEmpty := by
  cases r <;> rfl
theorem isEmpty_of {xs : List V} {its : List Value} (r : Vals xs its) : (!its.toArray.isEmpty) = !xs.isEmpty := by
  cases r <;> simp
theorem line63 : (sizeLine : Nat) < 2 ^ 63 := by rw [sizeLine_eq]; decide
theorem tru_ok : TruR X (fun x H Q => ∃ k, TruV X.K x H k ∧ Q k H) := by
  intro pins s σ H x v Q I rx h
  obtain ⟨k, e, q⟩ := h
  have hl := line63
  have hs : sizeLine = 16777216 := sizeLine_eq
  cases x with
  | non =>
    cases rx
    have e' : k = false := e
    subst e'
    exact truthy_none ⟨H, I, q⟩
  | bl b =>
    cases rx
    have e' : k = b := e
    subst e'
    exact wpAny_truthy_bool ⟨H, I, q⟩
  | int i =>
    obtain ⟨t, rfl⟩ := rx
    have e' : k = (i != 0) := e
    subst e'
    exact PySem.P.truthy_int ⟨H, I, q⟩
  | str y =>
    obtain ⟨t, rfl⟩ := rx
    obtain ⟨hy, e'⟩ : y.length ≤ sizeLine ∧ k = ((y.length : Int) != 0) := e
    subst e'
    exact PySem.P.truthy_str (by omega) ⟨H, I.tok _, q⟩
  | byt y =>
    obtain ⟨t, rfl⟩ := rx
    obtain ⟨hy, e'⟩ : y.size ≤ sizeLine ∧ k = ((y.size : Int) != 0) := e
    subst e'
    exact PySem.W.truthy_bytes (by omega) ⟨H, I.tok _, q⟩
  | ref p =>
    cases rx
    have e' : (∃ xs, SqL X.K H p xs ∧ k = !xs.isEmpty) ∨ (∃ xs, SqT X.K H p xs ∧ k = !xs.isEmpty) ∨ ∃ kvs, H p = some (.dK kvs) ∧ k = !kvs.isEmpty := e
    rcases e' with ⟨xs, hx, e'⟩ | ⟨xs, hx, e'⟩ | ⟨kvs, hx, e'⟩
    · subst e'
      obtain ⟨its, r, pl, hz⟩ := I.list hx
      have hlen := r.length
      exact wpAny_truthy_list pl.isList (by simp only [List.size_toArray]; omega) ⟨H, I.tok _, by rw [isEmpty_of r]; exact q⟩
    · subst e'
      obtain ⟨its, r, pl, hz⟩ := I.tuple hx
      have hlen := r.length
      exact truthy_tuple pl (by simp only [List.size_toArray]; omega) ⟨H, I.tok _, by rw [isEmpty_of r]; exact q⟩
    · subst e'
      obtain ⟨hz, hS, vs, r, m⟩ : kvs.length ≤ sizeLine ∧ (p == sysModules) = false ∧ ∃ vs, KV kvs vs ∧ s.heap.DictOf (mixKind X.prog X.w) p vs := I.hok p _ hx
      have hlen : kvs.length = vs.length := Paired.length r
      exact wpAny_truthy_dict hS m (by omega) ⟨H, I.tok _, by rw [isEmpty_kv r]; exact q⟩
  | _ => exact (show False from e).elim
theorem pt_truth (ha : PE X a ta) (he : ∀ whole, isTrue a X.env whole = (do let v ← whole; standAt a.pos; holding [v] (truthy v))) :
    PT X a (fun σ H Q => ta σ H fun x H' => ∃ k, TruV X.K x H' k ∧ Q k H') := by
  intro pins s σ H Q I h
  exact isTrue_plain (thn (ha pins s σ H _ I h) fun v s1 ⟨x, H1, I1, r1, q1⟩ => tru_ok pins s1 σ H1 x v Q I1 r1 q1) (he _)
theorem op_add_str : OpR X (binaryOp .Add) (fun x y H Q => ∃ i j, x = .str i ∧ y = .str j ∧ i.length + j.length ≤ sizeLine ∧ Q (.str (i ++ j)) H) := by
  intro pins s σ H x y v u Q I rx ry h
  obtain ⟨i, j, rfl, rfl, hz, q⟩ := h
  obtain ⟨t, rfl⟩ := rx
  obtain ⟨t', rfl⟩ := ry
  exact add_str (fun t' tk => ⟨.str (i ++ j), H, I.tok _, ⟨_, rfl⟩, q⟩) hz
theorem vals1 {x : V} {us : List Value} (r : Vals [x] us) : ∃ u, us = [u] ∧ RelV x u := by
  cases r with
  | cons r1 r2 => cases r2; exact ⟨_, rfl, r1⟩
theorem vals2 {x y : V} {us : List Value} (r : Vals [x, y] us) : ∃ u w', us = [u, w'] ∧ RelV x u ∧ RelV y w' := by
  cases r with
  | cons r1 r2 =>
    cases r2 with
    | cons r3 r4 => cases r4; exact ⟨_, _, rfl, r1, r3⟩
end
end L2
namespace L2
open PySem PySem.Spec PyProof.Rows
structure ObjM (h : Heap) (x dx C : Addr) (mA : Str → Option Value) : Prop where
  obj : h.get? x = some (PySem.W.instObj C dx)
  ns : h.Ns1 dx mA
  ne : dx ≠ x
theorem lookIn_ns {h : Heap} {dx : Addr} {mA : Str → Option Value} (n : h.Ns1 dx mA) : ∃ od, h.get? dx = some od ∧ ∀ name, PySem.W.lookIn name od = some (mA name) := by
  obtain ⟨o, es, ep, ho, hd, hk, _, hm⟩ := n
  refine ⟨o, ho, fun name => ?_⟩
  have e := hm name
  unfold nsFind findBy at e
  rw [← Array.find?_toList] at e
  unfold PySem.W.lookIn
  rw [hd]
  dsimp only
  split
  · rename_i y q
    rw [q] at e
    exact congrArg some e
  · rename_i q
    rw [q] at e
    have a : es.toList.any (·.refKey) = false := by
      rw [List.any_eq_false]
      intro y hy
      obtain ⟨z, t, hkey⟩ := hk y (Array.mem_toList_iff.mp hy)
      simp [DictEntry.refKey, hkey]
    have a' : ¬ es.toList.any (·.refKey) = true := by rw [a]; exact Bool.false_ne_true
    rw [if_neg a']
    exact congrArg some e
theorem ObjM.look {h : Heap} {x dx C : Addr} {mA : Str → Option Value} (I : ObjM h x dx C mA) : ∃ od, PySem.W.InstAt h x (PySem.W.instObj C dx) C (some od) ∧ ∀ name, PySem.W.lookIn name od = some (mA name) :=
  let ⟨od, ho, hl⟩ := lookIn_ns I.ns
  ⟨od, ⟨I.obj, rfl, rfl, ho⟩, hl⟩
section
variable {prog : Program} {w : World} {A : Around} {E : Value → Shared → Prop} {s : Shared} {K : PySem.W.Frag} {x dx C f : Addr} {mA : Str → Option Value} {name : Str} {v : Value}
end
theorem RelO.some_of {v : V} {o : Option Value} (r : RelO (some v) o) : ∃ u, o = some u ∧ RelV v u := by
  cases o with
  | none => exact (show False from r).elim
  | some u => exact ⟨u, rfl, r⟩
section
variable {P : Program} {w : World} {H H' : Hp} {h h' : Heap} {a C dx : Addr} {fs fs' : List (Str × V)}
theorem ins_get (hok : HOk P w H h) (e : H a = some (.ins C dx fs)) : ∃ mA, ObjM h a dx C mA ∧ (∀ f, RelO (fs.lookup f) (mA f)) ∧ PySem.Within mA (fs.map (·.1)) ∧ fs.length ≤ 1000 ∧ H dx = some (.own a) := by
  obtain ⟨d, z, ne, ob, mA, n, r, q⟩ := (show ObjOk P w H h a (.ins C dx fs) from hok a _ e)
  exact ⟨mA, ⟨ob, n, ne⟩, r, q, z, d⟩
end
structure Cls (K : PySem.W.Frag) (C : Addr) : Prop where
  pg : PySem.W.plainGet K C Str.empty = true
  hd : PySem.W.hasDictIn K C = true
  po : PySem.W.plainOver K C = true
  sa : PySem.W.findIn K (.ref C) "__setattr__" = some (some (.builtin "object.__setattr__"))
theorem Cls.get {K : PySem.W.Frag} {C : Addr} (c : Cls K C) (f : Str) : PySem.W.plainGet K C f = true := c.pg
structure Con (K : PySem.W.Frag) (C : Addr) (f : Str) (v : V) (u : Value) : Prop where
  at_ : PySem.W.findIn K (.ref C) f = some (some u)
  rel : RelV v u
  get : PySem.W.specialIn K u "__get__" = some none
  cp : PySem.W.copiedNames.contains f = false
section
variable {X : Cx} {pins : List (Addr × Obj)} {σ : St} {H : Hp} {s : Shared} {a C dx : Addr} {fs : List (Str × V)} {f : Str} {v : V} {A : Around} {E : Value → Shared → Prop}
end
section
variable {X : Cx} {o e value : Expr} {f : Str} {pos pos' tpos : Pos} {ta tv : TE}
end
section
variable {X : Cx} {pins : List (Addr × Obj)} {σ : St} {H : Hp} {s : Shared} {A : Around} {E : Value → Shared → Prop} {Q : Value → Shared → Prop} {c : Value} {b : Bool}
inductive TyOf (K : PySem.W.Frag) (H : Hp) : V → Value → Prop where
  | non : TyOf K H .non (.type "NoneType")
  | bl (x : Bool) : TyOf K H (.bl x) (.type "bool")
  | int (i : Int) : TyOf K H (.int i) (.type "int")
  | str (x : Str) : TyOf K H (.str x) (.type "str")
  | flt (x : UInt64) : TyOf K H (.flt x) (.type "float")
  | lst {a : Addr} {xs : List V} (e : H a = some (.lst xs)) : TyOf K H (.ref a) (.type "list")
  | frz {a : Addr} {o : Obj} {xs : List V} (e : H a = some (.frz o (.lst xs))) : TyOf K H (.ref a) (.type "list")
  | tup {a : Addr} {xs : List V} (e : H a = some (.tup xs)) : TyOf K H (.ref a) (.type "tuple")
  | dK {a : Addr} {kvs : List (Key × V)} (e : H a = some (.dK kvs)) : TyOf K H (.ref a) (.type "dict")
  | dT {a : Addr} {kvs : List (List Key × V)} (e : H a = some (.dT kvs)) : TyOf K H (.ref a) (.type "dict")
  | ins {a C dx : Addr} {fs : List (Str × V)} (e : H a = some (.ins C dx fs)) (cl : Cls K C) (ha : PySem.W.findIn K (.ref C) "__class__" = some (some (.builtin "object.__class__")))
      (hn : PySem.W.specialIn K (.builtin "object.__class__") "__get__" = some (some (.builtin "getset_descriptor.__get__"))) (htk : PySem.W.takesIn K (.builtin "object.__class__") = some true)
      (hm : PySem.W.mroIn K C (.type "object") = some true) : TyOf K H (.ref a) (.ref C)
theorem isinst_ok {x : V} {u t : Value} (I : Inv X pins σ H s) (rx : RelV x u) (ty : TyOf X.K H x t) (e : PySem.W.kitOne X.K t c = some b) (h : ∀ tk, Q (.bool b) { s with toks := tk }) :
    wpAny (model X.prog X.w) A (call (.builtin "isinstance") [u, c]) Q E s := by
  cases ty with
  | non => cases (show u = Value.none from rx); exact PySem.W.kia_one PySem.W.kitx_none I.kIn True.intro e (fun z => nomatch z) h
  | bl y => cases (show u = Value.bool y from rx); exact PySem.W.kia_one PySem.W.kitx_bool I.kIn True.intro e (fun z => nomatch z) h
  | int i => obtain ⟨t, q⟩ := (show ∃ t, u = Value.int i t from rx); cases q; exact PySem.W.kia_one PySem.W.kitx_int I.kIn True.intro e (fun z => nomatch z) h
  | str y => obtain ⟨t, q⟩ := (show ∃ t, u = Value.str y t from rx); cases q; exact PySem.W.kia_one PySem.W.kitx_str I.kIn True.intro e (fun z => nomatch z) h
  | flt y => obtain ⟨t, q⟩ := (show ∃ t, u = Value.float y t from rx); cases q; exact PySem.W.kia_one PySem.W.kitx_float I.kIn True.intro e (fun z => nomatch z) h
  | @lst a xs ea =>
    cases (show u = Value.ref a from rx)
    obtain ⟨_, _, n, _, h1⟩ := (show ObjOk X.prog X.w H s.heap a (.lst xs) from I.hok a _ ea)
    exact PySem.W.kia_one PySem.W.kitx_list I.kIn ⟨_, h1, rfl⟩ e (fun z => nomatch z) h
  | @frz a ob xs ea =>
    cases (show u = Value.ref a from rx)
    obtain ⟨_, _, _, n, _, h1⟩ := (show ObjOk X.prog X.w H s.heap a (.frz ob (.lst xs)) from I.hok a _ ea)
    exact PySem.W.kia_one PySem.W.kitx_list I.kIn ⟨_, h1, rfl⟩ e (fun z => nomatch z) h
  | @tup a xs ea =>
    cases (show u = Value.ref a from rx)
    obtain ⟨_, _, _, p, _⟩ := (show ObjOk X.prog X.w H s.heap a (.tup xs) from I.hok a _ ea)
    obtain ⟨o, h1, h2, _⟩ := p
    exact PySem.W.kia_one PySem.W.kitx_tuple I.kIn ⟨o, h1, h2⟩ e (fun z => nomatch z) h
  | @dK a kvs ea =>
    cases (show u = Value.ref a from rx)
    obtain ⟨_, _, vs, _, p⟩ := (show ObjOk X.prog X.w H s.heap a (.dK kvs) from I.hok a _ ea)
    obtain ⟨o, es, ep, h1, h2, _⟩ := p
    exact PySem.W.kia_one PySem.W.kitx_dict I.kIn ⟨o, h1, h2.1⟩ e (fun z => nomatch z) h
  | @dT a kvs ea =>
    cases (show u = Value.ref a from rx)
    obtain ⟨_, _, xs, _, o, es, ep, h1, h2, _⟩ := (show ObjOk X.prog X.w H s.heap a (.dT kvs) from I.hok a _ ea)
    exact PySem.W.kia_one PySem.W.kitx_dict I.kIn ⟨o, h1, h2.1⟩ e (fun z => nomatch z) h
  | @ins a C dx fs ea cl ha hn htk hm =>
    cases (show u = Value.ref a from rx)
    obtain ⟨mA, O, _⟩ := ins_get I.hok ea
    obtain ⟨od, J, _⟩ := O.look
    exact PySem.W.kia_one (PySem.W.kitx_own (cl.get _) cl.hd ha hn htk hm) I.kIn J e (fun z => nomatch z) h
end
end L2
namespace L2
open PySem PySem.Spec PyProof.Rows
structure Room (k : Nat) (A : Around) : Prop where
  hd : A.handled = none
  dp : A.depth + 3 * k + 5 < recursionLimit
  un : A.units + 16 * k + 200 < cLine
theorem Room.mono {j k : Nat} {A : Around} (r : Room k A) (h : j ≤ k) : Room j A := ⟨r.hd, by have := r.dp; omega, by have := r.un; omega⟩
theorem Room.deeper {k : Nat} {A : Around} (r : Room (k + 1) A) (env : Env) : Room k (A.deeper env) :=
  ⟨r.hd, by have := r.dp; show A.depth + 1 + 3 * k + 5 < _; omega, by have := r.un; show A.units + 3 + 16 * k + 200 < _; omega⟩
theorem Room.depth {k : Nat} {A : Around} (r : Room k A) : A.depth < recursionLimit := by have := r.dp; omega
noncomputable def tNil : TA := fun _ H Q => Q [] H
noncomputable def tCons (ta : TE) (tr : TA) : TA := fun σ H Q => ta σ H fun x H1 => tr σ H1 fun xs H2 => Q (x :: xs) H2
section
variable {X : Cx} {e : Expr} {es : List Expr} {te : TE} {t : TA} {pos : Pos}
theorem pa_nil : PA X [] tNil := fun _ _ _ _ H Q I h => Calls.spliced_nil ⟨[], H, I, .nil, h⟩
theorem pa_cons (ha : PE X e te) (hr : PA X es t) (hs : starEach (e :: es) X.env = (false, eval e X.env) :: starEach es X.env := by rfl) : PA X (e :: es) (tCons te t) := by
  intro pos pins s σ H Q I h
  rw [hs]
  show wpAny _ _ (spliced ((false, eval e X.env) :: backTo pos (starEach es X.env))) _ _ s
  refine Calls.spliced_cons (thn (ha pins s σ H _ I h) fun u s1 ⟨x, H1, I1, r1, q1⟩ => ?_)
  exact thn (hr pos pins s1 σ H1 _ I1 q1) fun us s2 hq3 => by obtain ⟨xs, H2, I2, r2, q2⟩ := hq3; exact ⟨x :: xs, H2, I2, .cons r1 r2, q2⟩
noncomputable def tTup (t : TA) : TE := fun σ H Q => t σ H fun xs H1 => xs.length ≤ sizeLine ∧ ∀ p, H1 p = none → Q (.ref p) (upd H1 p (.tup xs))
noncomputable def tLst (t : TA) : TE := fun σ H Q => t σ H fun xs H1 => xs.length ≤ sizeLine ∧ ∀ p, H1 p = none → Q (.ref p) (upd H1 p (.lst xs))
theorem pe_tup {x1} (h : PA X es t) : PE X (.Tuple es x1 pos) (tTup t) := by
  intro pins s σ H Q I hq
  refine wpAny_Tuple_spliced (thn (h pos pins s σ H _ I hq) fun us s1 ⟨xs, H1, I1, r, z, q⟩ => ⟨by rw [← r.length]; exact z, ?_⟩)
  have hf : H1 s1.heap.objs.size = none := I1.hok.fresh (Nat.le_refl _)
  refine ⟨.ref s1.heap.objs.size, upd H1 s1.heap.objs.size (.tup xs), I1.laid (t' := s1.toks) (fun b u e => Heap.get?_push_of_some _ e) (Nat.le_refl _) ?_, rfl, q _ hf⟩
  exact ⟨z, us, r, ⟨_, Heap.get?_push_size _ rfl, rfl, _, rfl⟩, NoD.new _ _⟩
theorem pe_lst (h : PA X es t) : PE X (.List es pos) (tLst t) := by
  intro pins s σ H Q I hq
  refine wpAny_List_spliced (thn (h pos pins s σ H _ I hq) fun us s1 ⟨xs, H1, I1, r, z, q⟩ => ⟨by rw [← r.length]; exact z, ?_⟩)
  have hf : H1 s1.heap.objs.size = none := I1.hok.fresh (Nat.le_refl _)
  refine ⟨.ref s1.heap.objs.size, upd H1 s1.heap.objs.size (.lst xs), I1.laid (t' := s1.toks) (fun b u e => Heap.get?_push_of_some _ e) (Nat.le_refl _) ?_, rfl, q _ hf⟩
  exact ⟨z, us, 0, r, Heap.get?_push_size _ rfl⟩
end
noncomputable abbrev Sp := List V → Hp → VK → XK → Prop
noncomputable abbrev CXT := List Env → Hp → Shared → XK → Value → Shared → Prop
structure Env0 (P : Program) (w : World) (K : PySem.W.Frag) (mg : Str → Option Value) (base : Heap) (A : Around) (outer : List Env) (s : Shared) (H : Hp) : Prop where
  frames : A.frames = some outer
  mod : Mod K mg base
  bs : ∀ b o, base.get? b = some o → s.heap.get? b = some o ∧ H b = none
  bsz : base.objs.size ≤ s.heap.objs.size
  funs : s.heap.FunFrames base outer
  frf : ∀ b ∈ frs outer, H b = none
  hok : HOk P w H s.heap
  bare : AllBare s.gens
  tab : TabK K base H
noncomputable def CE (outer : List Env) (P : Program) (w : World) (H : Hp) (s : Shared) (Q : VK) (u : Value) (s' : Shared) : Prop :=
  ∃ v H', s'.os = s.os ∧ AllBare s'.gens ∧ Un (frs outer) [] H H' s.heap s'.heap ∧ HOk P w H' s'.heap ∧ RelV v u ∧ Q v H'
noncomputable def CR (CX : CXT) (outer : List Env) (P : Program) (w : World) (H : Hp) (s : Shared) (Q : VK) (E : XK) (r : Result) (s' : Shared) : Prop :=
  match r with
  | .ok (.ret u) => CE outer P w H s Q u s'
  | .ok _ => False
  | .error e => CX outer H s E e s'
structure FnOk (P : Program) (w : World) (K : PySem.W.Frag) (mg : Str → Option Value) (base : Heap) (CX : CXT) (k : Nat) (f : Addr) (fd : FuncData) (ps : List Str) (sp : Sp) : Prop where
  len : ∀ vs H Q E, sp vs H Q E → vs.length = ps.length
  run : ∀ (A : Around) (outer : List Env) (s : Shared) (H : Hp) (args : Args) (us : List Value) (vs : List V) (Q : VK) (E : XK), Room k A → Env0 P w K mg base A outer s H → BindsTo s fd args (ps.zip us) → Vals vs us → sp vs H Q E →
    codeAny (model P w) A (.call (.ref f) args) (CR CX outer P w H s Q E) s
theorem FnOk.mono {P : Program} {w : World} {K : PySem.W.Frag} {mg : Str → Option Value} {base : Heap} {CX : CXT} {j k : Nat} {f : Addr} {fd : FuncData} {ps : List Str} {sp : Sp} (F : FnOk P w K mg base CX j f fd ps sp) (h : j ≤ k) :
    FnOk P w K mg base CX k f fd ps sp := ⟨F.len, fun A outer s H args us vs Q E hr => F.run A outer s H args us vs Q E (hr.mono h)⟩
section
variable {X : Cx} {pins : List (Addr × Obj)} {σ : St} {H : Hp} {s s' : Shared}
theorem Inv.env0 (I : Inv X pins σ H s) : Env0 X.prog X.w X.K X.mg X.base X.A X.stack s H :=
  ⟨I.ok.frames, I.ok.mod, I.bs, Nat.le_trans I.ok.bsz I.sz, I.stack, I.stkFree, I.hok, I.bare, I.tab⟩
theorem Inv.after {Q : VK} {u : Value} (I : Inv X pins σ H s) (h : CE X.stack X.prog X.w H s Q u s') : EP X pins σ Q u s' := by
  obtain ⟨v, H', os, bare, un, hok, r, q⟩ := h
  obtain ⟨hh, g, d, t, os'⟩ := s'
  obtain rfl : os' = s.os := os
  exact ⟨v, H', I.call (h' := hh) (g' := g) (d' := d) (t' := t) (ch := []) un hok bare (fun b z => absurd z (by simp)), r, q⟩
end
noncomputable def tCall (sp : Sp) (dvs : List V) (E : XK) (t : TA) : TE := fun σ H Q => t σ H fun vs H1 => sp (vs ++ dvs) H1 Q E
noncomputable def Binds (K : PySem.W.Frag) (fd : FuncData) (ps : List Str) (ds : List Value) : Prop :=
  ∀ (s : Shared) (us : List Value), K.In s.heap → (us ++ ds).length = ps.length → BindsTo s fd ⟨us, []⟩ (ps.zip (us ++ ds))
theorem Binds.all {K : PySem.W.Frag} {fd : FuncData} {ps : List Str} (h : ∀ us : List Value, us.length = ps.length → bindArgs fd ⟨us, []⟩ = pure (ps.zip us)) : Binds K fd ps [] := fun s us _ hl => by
  rw [List.append_nil] at hl ⊢
  exact .of_eq (h us hl)
noncomputable def Passes (CX : CXT) (X : Cx) (E : XK) : Prop := ∀ (pins : List (Addr × Obj)) (σ : St) (H : Hp) (s : Shared) (e : Value) (s' : Shared), Inv X pins σ H s → CX X.stack H s E e s' → X.xe e s'
section
variable {X : Cx} {CX : CXT} {k : Nat} {f C : Addr} {fd : FuncData} {ps : List Str} {sp : Sp} {dvs : List V} {ds : List Value} {E : XK} {x m : Str} {p pos apos : Pos} {e o : Expr} {es : List Expr} {ta : TE} {t : TA}
theorem run_fn {pins : List (Addr × Obj)} {σ : St} {H : Hp} {s : Shared} {Q : VK} {us : List Value} {vs : List V} (F : FnOk X.prog X.w X.K X.mg X.base CX k f fd ps sp) (hr : Room k X.A) (hb : Binds X.K fd ps ds) (hd : Vals dvs ds) (hx : Passes CX X E)
    (I : Inv X pins σ H s) (r : Vals vs us) (h : sp (vs ++ dvs) H Q E) : wpAny (model X.prog X.w) X.A (call (.ref f) us) (EP X pins σ Q) X.xe s := by
  have r2 : Vals (vs ++ dvs) (us ++ ds) := r.append hd
  have hl : (us ++ ds).length = ps.length := by rw [← r2.length]; exact F.len _ _ _ _ h
  refine wpAny_call (codeAny_mono (F.run X.A X.stack s H ⟨us, []⟩ (us ++ ds) (vs ++ dvs) Q E hr I.env0 (hb s us I.kIn hl) r2 h) fun r s' hq => ?_)
  cases r with
  | error e => exact hx pins σ H s e s' I hq
  | ok fl =>
    cases fl with
    | ret u => exact I.after hq
    | next => exact False.elim hq
    | brk => exact False.elim hq
    | cont => exact False.elim hq
theorem pe_call (F : FnOk X.prog X.w X.K X.mg X.base CX k f fd ps sp) (hr : Room k X.A) (hg : Gl X x) (hm : X.mg x = some (.ref f)) (hk : PySem.W.keepIn X.K (.ref f) = true) (hb : Binds X.K fd ps ds) (hd : Vals dvs ds) (hx : Passes CX X E)
    (ha : PA X (e :: es) t) (hdb : (x == ("__debug__" : Str)) = false := by decide) (he : starEach (e :: es) X.env = (false, eval e X.env) :: starEach es X.env := by rfl) (hpl : (backTo pos (starEach es X.env)).any (·.1) = false := by rfl) :
    PE X (.Call (.Name x p) (e :: es) [] pos) (tCall sp dvs E t) := by
  intro pins s σ H Q I h
  refine wpAny_Call_Name_kw (ld_glob I hg hm ?_ hdb)
  refine PySem.W.callWith_K (h₀ := X.base) I.ok.mod.kin hk (thn (ha pos pins s σ H _ I h) fun us s1 ⟨vs, H1, I1, r, q⟩ => ⟨I1.kIn, ?_⟩) he hpl
  exact run_fn F hr hb hd hx I1 r q
end
section
variable {X : Cx} {CX : CXT} {k : Nat} {f C : Addr} {fd : FuncData} {ps ks : List Str} {sp : Sp} {E : XK} {x m : Str} {p pos apos kpos : Pos} {e o : Expr} {es : List Expr} {kws : List Keyword} {te ta : TE} {t tk : TA} {nm : Option Str}
structure KBinds (K : PySem.W.Frag) (fd : FuncData) (ps ks : List Str) (g : List Value → List Value → List Value) (gV : List V → List V → List V) : Prop where
  to : ∀ (s : Shared) (us ws : List Value), K.In s.heap → (g us ws).length = ps.length → BindsTo s fd ⟨us, ks.zip ws⟩ (ps.zip (g us ws))
  rel : ∀ {vs : List V} {us : List Value} {zs : List V} {ws : List Value}, Vals vs us → Vals zs ws → Vals (gV vs zs) (g us ws)
variable {g : List Value → List Value → List Value} {gV : List V → List V → List V}
end
structure FnScope (N P : List Str) (sc : Scope) : Prop where
  kind : sc.kind = .function
  co : sc.isCoroutine = false
  gen : sc.isGenerator = false
  nd : N.Nodup
  pre : N.take P.length = P
  par : ∀ x ∈ P, sc.names.lookup x = some .local ∨ sc.names.lookup x = some .cell
  nofree : ∀ y ∈ sc.names, y.2 ≠ .free
theorem bindL_out {kindOf : Str → Option NameKind} {x : Str} : ∀ {binds : List (Str × Value)} {m : Str → Option Value}, (∀ v, (x, v) ∉ binds) → bindL kindOf binds m x = m x
  | [], _, _ => rfl
  | (n, v) :: r, m, h => by
    unfold bindL
    rw [bindL_out fun w hw => h w (List.mem_cons_of_mem _ hw)]
    split
    · have : x ≠ n := by rintro rfl; exact h v List.mem_cons_self
      simp [this]
    · rfl
theorem bindC_out {kindOf : Str → Option NameKind} {x : Str} : ∀ {binds : List (Str × Value)} {m : Str → Option Value}, (∀ v, (x, v) ∉ binds) → bindC kindOf binds m x = m x
  | [], _, _ => rfl
  | (n, v) :: r, m, h => by
    unfold bindC
    rw [bindC_out fun w hw => h w (List.mem_cons_of_mem _ hw)]
    split
    · rfl
    · have : x ≠ n := by rintro rfl; exact h v List.mem_cons_self
      simp [this]
theorem bindL_get {kindOf : Str → Option NameKind} {x : Str} {v : Value} : ∀ {P : List Str} {vs : List Value} {i : Nat} {m : Str → Option Value}, P.Nodup → P[i]? = some x → vs[i]? = some v → kindOf x = some .local →
    bindL kindOf (P.zip vs) m x = some v
  | [], _, _, _, _, h, _, _ => by simp at h
  | _ :: _, [], _, _, _, _, h, _ => by simp at h
  | p :: P, w :: vs, 0, m, nd, h1, h2, hk => by
    simp at h1 h2; subst h1; subst h2
    show bindL kindOf ((p, w) :: P.zip vs) m p = _
    unfold bindL
    rw [bindL_out fun v hv => (List.nodup_cons.mp nd).1 (List.of_mem_zip hv).1, if_pos hk]
    simp
  | p :: P, w :: vs, i + 1, m, nd, h1, h2, hk => by
    show bindL kindOf ((p, w) :: P.zip vs) m x = _
    unfold bindL
    exact bindL_get (i := i) (List.nodup_cons.mp nd).2 (by simpa using h1) (by simpa using h2) hk
theorem bindC_get {kindOf : Str → Option NameKind} {x : Str} {v : Value} : ∀ {P : List Str} {vs : List Value} {i : Nat} {m : Str → Option Value}, P.Nodup → P[i]? = some x → vs[i]? = some v → kindOf x ≠ some .local →
    bindC kindOf (P.zip vs) m x = some v
  | [], _, _, _, _, h, _, _ => by simp at h
  | _ :: _, [], _, _, _, _, h, _ => by simp at h
  | p :: P, w :: vs, 0, m, nd, h1, h2, hk => by
    simp at h1 h2; subst h1; subst h2
    show bindC kindOf ((p, w) :: P.zip vs) m p = _
    unfold bindC
    rw [bindC_out fun v hv => (List.nodup_cons.mp nd).1 (List.of_mem_zip hv).1, if_neg hk]
    simp
  | p :: P, w :: vs, i + 1, m, nd, h1, h2, hk => by
    show bindC kindOf ((p, w) :: P.zip vs) m x = _
    unfold bindC
    exact bindC_get (i := i) (List.nodup_cons.mp nd).2 (by simpa using h1) (by simpa using h2) hk
noncomputable def start (N : List Str) (vs : List V) : St := vs.map some ++ List.replicate (N.length - vs.length) none
noncomputable def cxOf (CX : CXT) (P : Program) (w : World) (K : PySem.W.Frag) (mg : Str → Option Value) (base : Heap) (N : List Str) (qual : Str) (scope : Scope) (f : Addr) (cd : Value) (A : Around) (outer : List Env) (s : Shared) (H : Hp) (E : XK) : Cx where
  prog := P
  w := w
  K := K
  mg := mg
  base := base
  A := A.deeper (envOfC qual scope s.heap.objs.size f cd)
  N := N
  s₀ := s
  H₀ := H
  env := envOfC qual scope s.heap.objs.size f cd
  outer := outer
  stack := envOfC qual scope s.heap.objs.size f cd :: outer
  ex := []
  calm := true
  fn := fun _ => true
  pn := []
  xe := fun e s' => wpAny (model P w) (A.deeper (envOfC qual scope s.heap.objs.size f cd)) (leaving (envOfC qual scope s.heap.objs.size f cd) e) (fun _ s'' => CX outer H s E e s'') (fun e' s'' => CX outer H s E e' s'') s'
theorem cell_has {sc : Scope} {n : Nat} {x : Str} (h : sc.names.lookup x = some .cell) : ∃ c, (cellsFrom n sc.names []).lookup x = some c := by
  have q := PySem.W.cellsFrom_some sc.names n [] (.inl h)
  exact Option.isSome_iff_exists.mp q
theorem inv_start {CX : CXT} {P : Program} {w : World} {K : PySem.W.Frag} {mg : Str → Option Value} {base : Heap} {N ps : List Str} {qual : Str} {scope : Scope} {f : Addr} {cd : Value} {A : Around} {outer : List Env} {s s1 : Shared} {H : Hp} {E : XK} {us : List Value} {vs : List V}
    (S : FnScope N ps scope) (hd : A.handled = none) (e0 : Env0 P w K mg base A outer s H) (hl : vs.length = ps.length) (r : Vals vs us)
    (x : InCallC s s.heap.objs.size (bindL (envOfC qual scope s.heap.objs.size f cd).kindOf (ps.zip us) fun _ => none) (cellsFrom (s.heap.objs.size + 1) scope.names []) (bindC (envOfC qual scope s.heap.objs.size f cd).kindOf (ps.zip us) fun _ => none) s1) :
    Inv (cxOf CX P w K mg base N qual scope f cd A outer s H E) [] (start N vs) H s1 := by
  have hpl : ps.length ≤ N.length := by have := congrArg List.length S.pre; rw [List.length_take] at this; omega
  obtain ⟨h1, tk, rfl, hk⟩ := x.done
  have noA : ∀ b : Addr, b ∉ (cxOf CX P w K mg base N qual scope f cd A outer s H E).ex := fun b z => absurd (show b ∈ ([] : List Addr) from z) (by simp)
  refine ⟨⟨e0.mod, S.kind, rfl, rfl, Nat.le_refl _, fun y z c h1 h2 => ?_, fun y hy => ?_, fun y c _ h => ?_, fun _ => hd, Around.frames_deeper e0.frames, .inr ⟨rfl, rfl⟩, fun b z => absurd z (noA b), e0.bs, e0.bsz, fun b _ _ => noA b, fun b z => absurd z (noA b), e0.funs, e0.frf, e0.tab⟩,
    rfl, e0.bare, Un.kept hk, ⟨_, x.toInCall.ns, fun i y v h1 h2 h3 => ?_⟩, fun y c h => ⟨_, x.cell y c h⟩, e0.hok.fresh (Nat.le_refl _), fun y c h => ?_, fun p hp => absurd (show p ∈ ([] : List (Addr × Obj)) from hp) (by simp), e0.hok.kept hk, ?_⟩
  · exact name_of_addr x.apart (PySem.mem_of_lookup h1) (PySem.mem_of_lookup h2)
  · have hy : scope.names.lookup y = some .cell ∨ scope.names.lookup y = some .free := hy
    rcases hy with hy | hy
    · exact cell_has hy
    · exact absurd rfl (S.nofree _ (PySem.mem_of_lookup hy))
  · exact Nat.le_of_lt (x.above y c (PySem.mem_of_lookup h))
  · have hi : i < vs.length := by
      unfold start at h2
      by_cases hi : i < vs.length
      · exact hi
      · rw [List.getElem?_append_right (by simpa using hi)] at h2
        rw [List.getElem?_replicate] at h2
        split at h2 <;> cases h2
    have ha : vs[i]? = some v := by
      unfold start at h2
      rw [List.getElem?_append_left (by simpa using hi), List.getElem?_map] at h2
      cases e : vs[i]? with
      | none => rw [e] at h2; cases h2
      | some a => rw [e] at h2; cases h2; rfl
    obtain ⟨u, hu, rv⟩ := r.get ha
    have hp : ps[i]? = some y := by
      rw [← S.pre, List.getElem?_take_of_lt (by omega)]; exact h1
    have ndP : ps.Nodup := by rw [← S.pre]; exact S.nd.sublist (List.take_sublist _ _)
    refine ⟨u, rv, ?_⟩
    rcases S.par y (List.mem_of_getElem? hp) with k | k
    · exact .inl ⟨k, bindL_get ndP hp hu k⟩
    · obtain ⟨c, e⟩ := cell_has (n := s.heap.objs.size + 1) k
      refine .inr ⟨.inl k, c, e, ?_⟩
      have q := x.cell y c e
      rw [bindC_get ndP hp hu (by show scope.names.lookup y ≠ _; rw [k]; decide)] at q
      exact q
  · exact e0.hok.fresh (Nat.le_of_lt (x.above y c (PySem.mem_of_lookup h)))
  · unfold start
    show _ = N.length
    rw [List.length_append, List.length_map, List.length_replicate]
    omega
theorem fn_of {CX : CXT} {P : Program} {w : World} {K : PySem.W.Frag} {mg : Str → Option Value} {base : Heap} {k : Nat} {f : Addr} {name qual : Str} {params : Arguments} {body : List Stmt} {scope : Scope} {dV kV doc pm cdv ct oc : Value} {an od : Option Addr}
    {osl : Array (Option Value)} {N ps : List Str} {sp : Sp} (lk : K.lookup f = some ⟨oc, od, .func (PySem.W.fnOf name qual params body scope dV kV doc pm an cdv ct), osl⟩) (hcd : PySem.W.codeIn K cdv qual = true) (S : FnScope N ps scope)
    (len : ∀ vs H Q E, sp vs H Q E → vs.length = ps.length)
    (hbody : ∀ (A : Around) (outer : List Env) (s : Shared) (H : Hp) (vs : List V) (Q : VK) (E : XK), Room k (A.deeper (envOfC qual scope s.heap.objs.size f cdv)) → sp vs H Q E →
      ∃ t, PSs (cxOf CX P w K mg base N qual scope f cdv A outer s H E) body t ∧ t { nx := fun _ H' => Q .non H', rt := Q } (start N vs) H) :
    FnOk P w K mg base CX (k + 1) f (PySem.W.fnOf name qual params body scope dV kV doc pm an cdv ct) ps sp := by
  refine ⟨len, fun A outer s H args us vs Q E hr e0 hb r hsp => ?_⟩
  have hl := len _ _ _ _ hsp
  have KX : K.In s.heap := e0.mod.kin.keeps fun b o e => (e0.bs b o e).1
  have lim : s.heap.NoLimit := e0.mod.nolimit.keeps fun b o e => (e0.bs b o e).1
  have hkind : ∀ y ∈ ps.zip us, scope.names.lookup y.1 = some .local ∨ (scope.names.lookup y.1 = some .cell ∧ ((cellsFrom (s.heap.objs.size + 1) scope.names []).lookup y.1).isSome = true) := fun ⟨n, v⟩ hy => by
    rcases S.par n (List.of_mem_zip hy).1 with q | q
    · exact .inl q
    · exact .inr ⟨q, PySem.W.cellsFrom_some _ _ _ (.inl q)⟩
  refine codeAny_call_function hr.depth (KX _ _ lk) rfl S.co S.gen rfl (PySem.W.codeRec_of KX hcd) (hb _ _ _ _ ?_)
  refine wpAny_newFunctionEnv_cells S.kind hkind fun env he s1 x => ?_
  subst he
  refine ⟨lim.keeps x.toInCall.keep, codeAny_func ?_⟩
  obtain ⟨t, ht, hq⟩ := hbody A outer s H vs Q E (hr.deeper _) hsp
  have I : Inv (cxOf CX P w K mg base N qual scope f cdv A outer s H E) [] (start N vs) H s1 := inv_start S hr.hd e0 hl r x
  refine wpAny_mono (ht [] s1 (start N vs) H _ I hq) (fun fl s' hs => ?_) fun e s' hs => hs
  have fin : ∀ {σ' : St} {H' : Hp} {v : V} {u : Value}, Inv (cxOf CX P w K mg base N qual scope f cdv A outer s H E) [] σ' H' s' → RelV v u → Q v H' → CE outer P w H s Q u s' :=
    fun {σ' H' v u} J rv q => ⟨v, H', J.os, J.bare, J.base, J.hok, rv, q⟩
  cases fl with
  | ret u =>
    obtain ⟨v, σ', H', J, rv, q⟩ := hs
    exact fin J rv q
  | next =>
    obtain ⟨σ', H', J, q⟩ := hs
    exact fin (v := V.non) (u := Value.none) J rfl q
  | brk =>
    obtain ⟨_, _, _, q⟩ := hs
    exact False.elim q
  | cont =>
    obtain ⟨_, _, _, q⟩ := hs
    exact False.elim q
end L2
namespace L2
open PySem PySem.Spec PyProof.Rows
section
variable {X : Cx} {x : Str} {p pos : Pos} {e : Expr} {es : List Expr} {t : TA} {id T : String} {r : List V → Hp → VK → Prop}
noncomputable def tCB (r : List V → Hp → VK → Prop) (t : TA) : TE := fun σ H Q => t σ H fun vs H1 => r vs H1 Q
theorem pe_callB (hc : CallR X (.builtin id) r) (hg : Gl X x) (hm : X.mg x = none) (hv : bootBuiltins x = some (.builtin id)) (ha : PA X (e :: es) t) (hn : x ≠ "__name__" := by decide) (hdb : (x == ("__debug__" : Str)) = false := by decide)
    (he : starEach (e :: es) X.env = (false, eval e X.env) :: starEach es X.env := by rfl) (hpl : (backTo pos (starEach es X.env)).any (·.1) = false := by rfl) : PE X (.Call (.Name x p) (e :: es) [] pos) (tCB r t) := by
  intro pins s σ H Q I h
  refine wpAny_Call_Name_kw (ld_blt I hg hm hv ?_ hn hdb)
  exact PyProof.Rows.callWith_builtin1 (thn (ha pos pins s σ H _ I h) fun us s1 ⟨vs, H1, I1, r1, q1⟩ => hc pins s1 σ H1 vs us Q I1 r1 q1) he hpl
theorem pe_callTy (hc : CallR X (.type T) r) (hg : Gl X x) (hm : X.mg x = none) (hv : bootBuiltins x = some (.type T)) (ha : PA X (e :: es) t) (hn : x ≠ "__name__" := by decide) (hdb : (x == ("__debug__" : Str)) = false := by decide)
    (he : starEach (e :: es) X.env = (false, eval e X.env) :: starEach es X.env := by rfl) (hpl : (backTo pos (starEach es X.env)).any (·.1) = false := by rfl) : PE X (.Call (.Name x p) (e :: es) [] pos) (tCB r t) := by
  intro pins s σ H Q I h
  refine wpAny_Call_Name_kw (ld_blt I hg hm hv ?_ hn hdb)
  exact PyProof.Rows.callWith_type1 (thn (ha pos pins s σ H _ I h) fun us s1 ⟨vs, H1, I1, r1, q1⟩ => hc pins s1 σ H1 vs us Q I1 r1 q1) he hpl
end
end L2
namespace HT
open PySem PyProof.Rows
section
open PySem.SeqAt
open PySem.AutoSeq1 (wpAny_loadPart')
open PySem.MeetsSeq PySem.MeetsSeq2 PySem.MeetsSeq3
end
section
variable {prog : Program} {w : World} {A : Around} {E : Value → Shared → Prop} {s : Shared}
theorem cat_tup {t b : Addr} {vs ws : List Value} {Q : Value → Shared → Prop} (ht : IsTup s.heap t vs.toArray) (hb : IsTup s.heap b ws.toArray) (hv : vs ≠ [])
    (h1 : ws = [] → Q (.ref t) s) (h2 : ws ≠ [] → Q (.ref s.heap.objs.size) { s with heap := s.heap.push { cls := .type "tuple", data := .seq (vs ++ ws).toArray } })
    (hsz : vs.length + ws.length ≤ sizeLine) : wpAny (model prog w) A (binaryOp .Add (.ref t) (.ref b)) Q E s := by
  obtain ⟨⟨cls, dd, data, sl⟩, ho, hc, n, hd⟩ := id ht
  obtain ⟨⟨cls2, dd2, data2, sl2⟩, ho2, hc2, n2, hd2⟩ := id hb
  simp only at hc hd hc2 hd2
  subst hc hd hc2 hd2
  have e : vs.toArray ++ ws.toArray = (vs ++ ws).toArray := by simp
  by_cases hw : ws = []
  · exact concat_meets ⟨_, ho, rfl⟩ ⟨_, ho2, rfl⟩ noFill_tuple_add seq_tuple_add PySem.F.slot_tuple_add PySem.F.entry_tuple_add (PySem.F.args_tuple_add_2 _ _)
      (tuple_addW1 t b vs.toArray ws.toArray n n2 dd dd2 sl sl2 (by simpa using hv) (by simp [hw])) ⟨ho, ho2, h1 hw⟩
  · refine concat_meets ⟨_, ho, rfl⟩ ⟨_, ho2, rfl⟩ noFill_tuple_add seq_tuple_add PySem.F.slot_tuple_add PySem.F.entry_tuple_add (PySem.F.args_tuple_add_2 _ _)
      (tuple_addW2 t b vs.toArray ws.toArray n n2 dd dd2 sl sl2 (by simpa using hv) (by simpa using hw) (by rw [List.size_toArray, List.size_toArray]; exact hsz)) ⟨ho, ho2, ?_⟩
    rw [e]
    exact h2 hw
noncomputable def sIx (n d : Nat) : Option Int → Nat
  | none => d
  | some v => if v < 0 then (v + (n : Int)).toNat else min v.toNat n
theorem sIx_le (n d : Nat) (hd : d ≤ n) (o : Option Int) : sIx n d o ≤ n := by
  cases o with
  | none => exact hd
  | some v =>
    show (if v < 0 then (v + (n : Int)).toNat else min v.toNat n) ≤ n
    by_cases hv : v < 0
    · rw [if_pos hv]; omega
    · rw [if_neg hv]; exact Nat.min_le_right _ _
theorem clip_eq (v : Int) (n d : Nat) : (if v < 0 then max (v + (n : Int)) 0 else min v (n : Int)) = ((sIx n d (some v) : Nat) : Int) := by
  show (if v < 0 then max (v + (n : Int)) 0 else min v (n : Int)) = (((if v < 0 then (v + (n : Int)).toNat else min v.toNat n) : Nat) : Int)
  by_cases hv : v < 0
  · simp only [if_pos hv]; omega
  · simp only [if_neg hv]; omega
theorem adjust_gen (lo hi : Option Int) (n : Nat) : Builtin.Slice.sliceAdjust lo hi 1 (n : Int) = (((sIx n 0 lo : Nat) : Int), ((sIx n n hi : Nat) : Int)) := by
  have h1 : ¬ ((1 : Int) < 0) := by omega
  unfold Builtin.Slice.sliceAdjust
  simp only [h1, if_false]
  refine Prod.ext ?_ ?_
  · cases lo with
    | none => rfl
    | some v => exact clip_eq v n 0
  · cases hi with
    | none => rfl
    | some v => exact clip_eq v n n
theorem places_gen (i j : Nat) : Builtin.Slice.slicePlaces (i : Int) (j : Int) 1 = j - i := by
  unfold Builtin.Slice.slicePlaces
  have h1 : (1 : Int) > 0 := by omega
  simp only [h1, if_true, Int.ediv_one]
  split <;> omega
theorem slicePart_ {v : Value} {o : Option Int} {Q : Option Int → Shared → Prop} (p : IsPart v o) (h : Q o s) : wpAny (model prog w) A (Builtin.Slice.slicePartIndex v) Q E s := by
  cases p with
  | none => exact slicePart_none h
  | int i t => exact slicePart_int h
theorem sliceApplied_gen {sl : Addr} {vl vu : Value} {lo hi : Option Int} {n : Nat} {Q : Int × Int × Nat → Shared → Prop} (hs : s.heap.IsSliceOf sl vl vu .none) (pl : IsPart vl lo) (pu : IsPart vu hi)
    (h : Q (((sIx n 0 lo : Nat) : Int), 1, sIx n n hi - sIx n 0 lo) s) : wpAny (model prog w) A (Builtin.Slice.sliceApplied (.ref sl) (pure (n : Int))) Q E s := by
  obtain ⟨os, hos, hcs, hds⟩ := id hs
  unfold Builtin.Slice.sliceApplied Builtin.Slice.sliceFields
  refine wpAny_bind (wpAny_bind (wpAny_field hos hds (x := vl) rfl (wpAny_bind (wpAny_field hos hds (x := vu) rfl (wpAny_bind (wpAny_field hos hds (x := .none) rfl (wpAny_pure ?_)))))))
  refine wpAny_bind (slicePart_none ?_)
  show wpAny _ _ (if ((1 : Int) == 0) = true then _ else _) _ _ s
  rw [if_neg (by decide)]
  refine wpAny_bind (slicePart_ pl (wpAny_bind (slicePart_ pu (wpAny_bind (wpAny_pure ?_)))))
  show wpAny _ _ (match Builtin.Slice.sliceAdjust lo hi 1 (n : Int) with | (lo, hi) => pure (lo, (1 : Int), Builtin.Slice.slicePlaces lo hi 1)) _ _ s
  rw [adjust_gen lo hi n]
  show wpAny _ _ (pure (((sIx n 0 lo : Nat) : Int), (1 : Int), Builtin.Slice.slicePlaces ((sIx n 0 lo : Nat) : Int) ((sIx n n hi : Nat) : Int) 1)) _ _ s
  rw [places_gen]
  exact wpAny_pure h
theorem pick_gen (xs : Array Value) (i k : Nat) : ((List.range k).filterMap fun (m : Nat) => xs[((i : Int) + (m : Int) * 1).toNat]?).toArray = ((xs.toList.drop i).take k).toArray := by
  have e : (fun (m : Nat) => xs[((i : Int) + (m : Int) * 1).toNat]?) = fun m => xs[i + m]? := by
    funext m
    have : ((i : Int) + (m : Int) * 1).toNat = i + m := by omega
    rw [this]
  rw [e]
  have := pick_run xs i k
  rw [List.filterMap_map] at this
  have e2 : ((fun x => xs[x]?) ∘ fun x => i + x) = fun m => xs[i + m]? := rfl
  rw [e2] at this
  rw [this]
theorem getItem_tuple_cut {t sl : Addr} {items : Array Value} {vl vu : Value} {lo hi : Option Int} {Q : Value → Shared → Prop} (ht : IsTup s.heap t items) (hs : s.heap.IsSliceOf sl vl vu .none) (pl : IsPart vl lo) (pu : IsPart vu hi)
    (hw : ¬ (sIx items.size 0 lo = 0 ∧ sIx items.size items.size hi = items.size))
    (h : Q (.ref s.heap.objs.size) { s with heap := s.heap.push { cls := .type "tuple", data := .seq ((items.toList.drop (sIx items.size 0 lo)).take (sIx items.size items.size hi - sIx items.size 0 lo)).toArray } })
    (hsz : items.size ≤ sizeLine) : wpAny (model prog w) A (getItem (.ref t) (.ref sl)) Q E s := by
  have htake : sizeOk (.seq ((items.toList.drop (sIx items.size 0 lo)).take (sIx items.size items.size hi - sIx items.size 0 lo)).toArray) := by
    show ((items.toList.drop (sIx items.size 0 lo)).take (sIx items.size items.size hi - sIx items.size 0 lo)).toArray.size ≤ sizeLine
    rw [List.size_toArray, List.length_take, List.length_drop, Array.length_toList]
    omega
  have hj : sIx items.size items.size hi ≤ items.size := sIx_le _ _ (Nat.le_refl _) hi
  obtain ⟨os, hos, hcs, hds⟩ := id hs
  have hTs : s.TypeIs (.ref sl) "slice" := ⟨os, hos, hcs⟩
  unfold getItem
  try with_reducible refine wpAny_holding ?_
  first | refine wpAny_bind (wpAny_pure ?_) | skip
  refine wpAny_bind (wpAny_sequenceKey ht.typeIs (by decide) ?_)
  refine wpAny_bind (wpAny_callSpecial?_slot (name := Str.ofString "__getitem__") ht.typeIs PyProof.Rows.slot_tuple_getitem
    (wpAny_call_entry PyProof.Rows.slot_tuple_getitem ht.typeIs entry_tuple_getitem ?_ (args_tuple_getitem _ _)))
  show wpAny _ _ (Builtin.Tuple.tupleItemsOf (.ref t) >>= _) _ _ s
  refine wpAny_bind (tupleItemsOf_ ht ?_)
  refine wpAny_bind (wpAny_typeOf hTs ?_)
  rw [if_pos (by decide)]
  refine wpAny_bind (sliceApplied_gen hs pl pu ?_)
  have hno : ¬ ((((sIx items.size 0 lo : Nat) : Int) == 0 && (1 : Int) == 1 && (sIx items.size items.size hi - sIx items.size 0 lo) == items.size) = true) := by
    intro q
    rw [Bool.and_eq_true, Bool.and_eq_true] at q
    have q1 : ((sIx items.size 0 lo : Nat) : Int) = 0 := eq_of_beq q.1.1
    have q2 : sIx items.size items.size hi - sIx items.size 0 lo = items.size := eq_of_beq q.2
    exact hw ⟨by omega, by omega⟩
  show wpAny _ _ (if (((sIx items.size 0 lo : Nat) : Int) == 0 && (1 : Int) == 1 && (sIx items.size items.size hi - sIx items.size 0 lo) == items.size) = true then _ else _) _ _ s
  rw [if_neg hno, pick_gen]
  first
    | exact wpAny_bind (m := Builtin.Tuple.tupleExact _) (wpAny_newObj_type (wpAny_pure ⟨_, rfl, wpAny_pure h⟩) htake)
    | exact wpAny_bind (m := Builtin.Tuple.tupleExact _) (wpAny_newObj_type (wpAny_bind (wpAny_pure (wpAny_pure ⟨_, rfl, wpAny_pure h⟩))) htake)
    | exact wpAny_bind (wpAny_bind (m := Builtin.Tuple.tupleExact _) (wpAny_newObj_type (wpAny_pure (wpAny_pure ⟨_, rfl, wpAny_pure h⟩)) htake))
    | exact wpAny_bind (wpAny_bind (m := Builtin.Tuple.tupleExact _) (wpAny_newObj_type (wpAny_pure ⟨_, rfl, wpAny_pure h⟩) htake))
end
end HT
namespace L2
open PySem PySem.Spec PyProof.Rows
noncomputable abbrev TO := St → Hp → (Option Int → Hp → Prop) → Prop
noncomputable def PO (X : Cx) (e : Option Expr) (t : TO) : Prop :=
  ∀ (pins : List (Addr × Obj)) (s : Shared) (σ : St) (H : Hp) (Q : Option Int → Hp → Prop), Inv X pins σ H s → t σ H Q →
    wpAny (model X.prog X.w) X.A (evalPart e X.env) (fun u s' => ∃ o H', Inv X pins σ H' s' ∧ IsPart u o ∧ Q o H') X.xe s
noncomputable def tNoPart : TO := fun _ H Q => Q none H
noncomputable def tPart (t : TE) : TO := fun σ H Q => t σ H fun x H1 => ∃ i, x = .int i ∧ Q (some i) H1
theorem intsAre_of {ns : List Int} : ∀ {us : List Value}, Vals (ns.map V.int) us → IntsAre us ns := by
  induction ns with
  | nil => intro us r; rw [List.map_nil] at r; cases r; exact .nil
  | cons n ns ih =>
    intro us r
    rw [List.map_cons] at r
    cases r with
    | cons r1 r2 =>
      obtain ⟨t, e⟩ := r1
      subst e
      exact .cons n t (ih r2)
section
variable {X : Cx} {e : Expr} {te : TE} {lo hi : Option Expr} {tl th : TO} {pos p2 : Pos}
theorem po_none : PO X none tNoPart := by
  intro pins s σ H Q I h
  rw [evalPart_none]
  exact wpAny_pure ⟨none, H, I, .none, h⟩
theorem po_some (h : PE X e te) : PO X (some e) (tPart te) := by
  intro pins s σ H Q I hw
  rw [evalPart_some]
  refine thn (h pins s σ H _ I hw) fun u s1 hq4 => ?_
  obtain ⟨x, H1, I1, r1, q1⟩ := hq4
  obtain ⟨i, rfl, q⟩ := q1
  obtain ⟨t, rfl⟩ := r1
  exact ⟨some i, H1, I1, .int i t, q⟩
noncomputable def SlR (X : Cx) (r : V → Option Int → Option Int → Hp → VK → Prop) : Prop :=
  ∀ (pins : List (Addr × Obj)) (s : Shared) (σ : St) (H : Hp) (x : V) (v vl vu : Value) (lo hi : Option Int) (sl : Addr) (Q : VK), Inv X pins σ H s → RelV x v → s.heap.IsSliceOf sl vl vu .none → IsPart vl lo → IsPart vu hi → r x lo hi H Q →
    ∃ T id, typeLookup (.type T) "__getitem__" = pure (some (.builtin id)) ∧ s.TypeIs v T ∧ wpAny (model X.prog X.w) X.A (getItem v (.ref sl)) (EP X pins σ Q) X.xe s
theorem SlR.or {r r' : V → Option Int → Option Int → Hp → VK → Prop} (h : SlR X r) (h' : SlR X r') : SlR X (fun x lo hi H Q => r x lo hi H Q ∨ r' x lo hi H Q) := by
  intro pins s σ H x v vl vu lo hi sl Q I rx hs pl pu q
  rcases q with q | q
  · exact h pins s σ H x v vl vu lo hi sl Q I rx hs pl pu q
  · exact h' pins s σ H x v vl vu lo hi sl Q I rx hs pl pu q
noncomputable def tSl (r : V → Option Int → Option Int → Hp → VK → Prop) (te : TE) (tl th : TO) : TE := fun σ H Q => te σ H fun x H1 => tl σ H1 fun l H2 => th σ H2 fun u H3 => r x l u H3 Q
theorem pe_slice {r : V → Option Int → Option Int → Hp → VK → Prop} (hr : SlR X r) (he : PE X e te) (hl : PO X lo tl) (hu : PO X hi th) : PE X (.Subscript e (.Slice lo hi none p2) pos) (tSl r te tl th) := by
  intro pins s σ H Q I h
  refine Subscript_ (thn (he pins s σ H _ I h) fun v s1 ⟨x, H1, I1, r1, q1⟩ => ?_)
  refine wpAny_Slice (thn (hl pins s1 σ H1 _ I1 q1) fun vl s2 ⟨l, H2, I2, pl, q2⟩ => thn (hu pins s2 σ H2 _ I2 q2) fun vu s3 ⟨u, H3, I3, pu, q3⟩ => ?_)
  rw [evalPart_none]
  refine wpAny_pure ?_
  have I4 : Inv X pins σ H3 { s3 with heap := s3.heap.push { cls := .type "slice", data := .fields #[vl, vu, .none] } } := I3.kept (t' := s3.toks) fun b ob q => Heap.get?_push_of_some _ q
  obtain ⟨T, id, hT, ht, hg⟩ := hr pins { s3 with heap := s3.heap.push { cls := .type "slice", data := .fields #[vl, vu, .none] } } σ H3 x v vl vu l u s3.heap.objs.size Q I4 r1 (Heap.IsSliceOf.new ..) pl pu q3
  show wpAny (model X.prog X.w) X.A (subscriptTail e (.Slice lo hi none p2) v (.ref s3.heap.objs.size)) (EP X pins σ Q) X.xe { s3 with heap := s3.heap.push { cls := .type "slice", data := .fields #[vl, vu, .none] } }
  exact tail_any (ops := [.ref s3.heap.objs.size, v]) ht hT hg (by with_unfolding_all rfl)
noncomputable def cutV (xs : List V) (lo hi : Option Int) : List V := (xs.drop (HT.sIx xs.length 0 lo)).take (HT.sIx xs.length xs.length hi - HT.sIx xs.length 0 lo)
theorem cutV_length (xs : List V) (lo hi : Option Int) : (cutV xs lo hi).length ≤ xs.length := by
  unfold cutV
  rw [List.length_take, List.length_drop]
  omega
noncomputable def rSlT (K : PySem.W.Frag) : V → Option Int → Option Int → Hp → VK → Prop := fun x lo hi H Q => ∃ a xs, x = .ref a ∧ SqT K H a xs ∧
  ¬ (HT.sIx xs.length 0 lo = 0 ∧ HT.sIx xs.length xs.length hi = xs.length) ∧ ∀ p, H p = none → Q (.ref p) (upd H p (.tup (cutV xs lo hi)))
theorem sl_tup : SlR X (rSlT X.K) := by
  intro pins s σ H x v vl vu lo hi sl Q I rx hs pl pu h
  obtain ⟨a, xs, rfl, hx, hw, q⟩ := h
  cases rx
  obtain ⟨its, r, ht, hz⟩ := I.tuple hx
  have hlen : its.toArray.size = xs.length := by rw [List.size_toArray]; exact r.length.symm
  refine ⟨"tuple", _, PyProof.Rows.slot_tuple_getitem.lookup, ht.typeIs, ?_⟩
  refine HT.getItem_tuple_cut ht hs pl pu (by rw [hlen]; exact hw) ?_ (by rw [hlen]; exact hz)
  rw [hlen]
  refine ⟨.ref s.heap.objs.size, _, I.laid (t' := s.toks) (o := .tup (cutV xs lo hi)) (fun b ob q => Heap.get?_push_of_some _ q) (Nat.le_refl _) ?_, rfl, q _ (I.hok.fresh (Nat.le_refl _))⟩
  exact ⟨Nat.le_trans (cutV_length xs lo hi) hz, _, (r.drop (HT.sIx xs.length 0 lo)).take (HT.sIx xs.length xs.length hi - HT.sIx xs.length 0 lo), IsTup.new _ _, NoD.new _ _⟩
noncomputable def rCatT (K : PySem.W.Frag) : R2 := fun x y H Q => ∃ a b xs ys, x = .ref a ∧ y = .ref b ∧ SqT K H a xs ∧ SqT K H b ys ∧ xs ≠ [] ∧ xs.length + ys.length ≤ sizeLine ∧
  (ys = [] → Q (.ref a) H) ∧ (ys ≠ [] → ∀ p, H p = none → Q (.ref p) (upd H p (.tup (xs ++ ys))))
theorem Vals.nil_iff {xs : List V} {us : List Value} (r : Vals xs us) : us = [] ↔ xs = [] := by
  cases r with
  | nil => simp
  | cons _ _ => simp
theorem op_catT : OpR X (binaryOp .Add) (rCatT X.K) := by
  intro pins s σ H x y v u Q I rx ry h
  obtain ⟨a, b, xs, ys, rfl, rfl, ha, hb, hx, hz, q1, q2⟩ := h
  cases rx
  cases ry
  obtain ⟨its, r1, p1, _⟩ := I.tuple ha
  obtain ⟨its2, r2, p2, _⟩ := I.tuple hb
  refine HT.cat_tup p1 p2 (fun z => hx (r1.nil_iff.mp z)) (fun z => ⟨.ref a, H, I, rfl, q1 (r2.nil_iff.mp z)⟩) (fun z => ?_) (by rw [← r1.length, ← r2.length]; exact hz)
  refine ⟨.ref s.heap.objs.size, _, I.laid (t' := s.toks) (o := .tup (xs ++ ys)) (fun b ob q => Heap.get?_push_of_some _ q) (Nat.le_refl _) ?_, rfl, q2 (fun w => z (r2.nil_iff.mpr w)) _ (I.hok.fresh (Nat.le_refl _))⟩
  exact ⟨by rw [List.length_append]; exact hz, _, r1.append r2, IsTup.new _ _, NoD.new _ _⟩
end
end L2
namespace L2
open PySem PySem.Spec PyProof.Rows
noncomputable def ixN (n : Nat) (i : Int) : Option Nat := if 0 ≤ i then (if i < n then some i.toNat else none) else if -(n : Int) ≤ i then some (i + n).toNat else none
noncomputable def atI {α : Type} (xs : List α) (i : Int) : Option α := (ixN xs.length i).bind fun j => xs[j]?
theorem ixN_seq {n : Nat} {i : Int} {j : Nat} (h : ixN n i = some j) : seqIndex? i n = some j ∧ j < n ∧ -(n : Int) ≤ i ∧ i < n := by
  unfold ixN at h
  by_cases h0 : 0 ≤ i
  · rw [if_pos h0] at h
    by_cases h1 : i < n
    · rw [if_pos h1] at h
      have e : i.toNat = j := Option.some.inj h
      exact ⟨by rw [seqIndex_of h0 h1, e], by omega, by omega, h1⟩
    · rw [if_neg h1] at h; cases h
  · rw [if_neg h0] at h
    by_cases h1 : -(n : Int) ≤ i
    · rw [if_pos h1] at h
      have e : (i + n).toNat = j := Option.some.inj h
      exact ⟨by rw [seqIndex_neg (by omega) h1, e], by omega, h1, by omega⟩
    · rw [if_neg h1] at h; cases h
theorem atI_get {α : Type} {xs : List α} {i : Int} {v : α} (h : atI xs i = some v) : ∃ j, seqIndex? i xs.length = some j ∧ xs[j]? = some v ∧ j < xs.length ∧ -(xs.length : Int) ≤ i ∧ i < xs.length := by
  unfold atI at h
  cases e : ixN xs.length i with
  | none => rw [e] at h; cases h
  | some j =>
    rw [e] at h
    obtain ⟨h1, h2, h3, h4⟩ := ixN_seq e
    exact ⟨j, h1, h, h2, h3, h4⟩
noncomputable def PlainIx (b : Expr) : Prop := ∀ o i, subscripted b false o i = operate [o, i] (getItem o i)
noncomputable def IxR (X : Cx) (r : R2) : Prop :=
  ∀ (value slice : Expr) (pins : List (Addr × Obj)) (s : Shared) (σ : St) (H : Hp) (x y : V) (v u : Value) (Q : VK), Inv X pins σ H s → RelV x v → RelV y u → r x y H Q →
    subscripted slice false v u = operate [v, u] (getItem v u) → wpAny (model X.prog X.w) X.A (subscriptTail value slice v u) (EP X pins σ Q) X.xe s
noncomputable def MtR (X : Cx) (id : String) (r : V → List V → Hp → VK → Prop) : Prop :=
  ∀ (pins : List (Addr × Obj)) (s : Shared) (σ : St) (H : Hp) (x : V) (xs : List V) (v : Value) (us : List Value) (Q : VK), Inv X pins σ H s → RelV x v → Vals xs us → r x xs H Q →
    wpAny (model X.prog X.w) X.A (call (.builtin id) (v :: us)) (EP X pins σ Q) X.xe s
section
variable {X : Cx} {a b : Expr} {ta tb : TE} {pos : Pos}
theorem IxR.or {r r' : R2} (h : IxR X r) (h' : IxR X r') : IxR X (fun x y H Q => r x y H Q ∨ r' x y H Q) := by
  intro value slice pins s σ H x y v u Q I rx ry q hs
  rcases q with q | q
  · exact h value slice pins s σ H x y v u Q I rx ry q hs
  · exact h' value slice pins s σ H x y v u Q I rx ry q hs
theorem pe_ix {r : R2} (hr : IxR X r) (ha : PE X a ta) (hb : PE X b tb) (hs : PlainIx b) : PE X (.Subscript a b pos) (tOp r ta tb) := by
  intro pins s σ H Q I h
  exact Subscript_ (binT ha hb I h fun v u s2 x y H2 I2 rx ry q => hr a b pins s2 σ H2 x y v u Q I2 rx ry q (hs _ _))
noncomputable def rIxL (K : PySem.W.Frag) : R2 := fun x y H Q => ∃ p xs i v, x = .ref p ∧ y = .int i ∧ SqL K H p xs ∧ atI xs i = some v ∧ Q v H
noncomputable def rIxT (K : PySem.W.Frag) : R2 := fun x y H Q => ∃ p xs i v, x = .ref p ∧ y = .int i ∧ SqT K H p xs ∧ atI xs i = some v ∧ Q v H
theorem ix_list : IxR X (rIxL X.K) := by
  intro value slice pins s σ H x y v u Q I rx ry h hs
  obtain ⟨p, xs, i, z, rfl, rfl, hq, he, q⟩ := h
  cases rx
  obtain ⟨t, rfl⟩ := ry
  obtain ⟨its, r, pl, hz⟩ := I.list hq
  obtain ⟨j, h1, h2, h3, h4, h5⟩ := atI_get he
  obtain ⟨w, ew, rw'⟩ := r.get h2
  have hl := r.length
  have hn := line63
  have fin : EP X pins σ Q w s := ⟨z, H, I, rw', q⟩
  by_cases h0 : 0 ≤ i
  · have hj : i.toNat = j := by
      rw [seqIndex_of h0 h5] at h1
      exact Option.some.inj h1
    exact item_listR pl.isList h0 (by omega) (by rw [hj]; simpa using ew) fin hs
  · have hj : (i + (its.toArray.size : Int)).toNat = j := by
      rw [seqIndex_neg (by omega) h4] at h1
      rw [List.size_toArray, ← hl]
      exact Option.some.inj h1
    exact subscriptTail_builtinR (x := w) pl.isList.typeIs slot_list_getitem.lookup
      (wpAny_getItem_list_neg (Q := fun r s' => r = w ∧ EP X pins σ Q r s') pl.isList (by omega) (by rw [List.size_toArray] <;> omega) (by omega) (by rw [hj]; simpa using ew) ⟨rfl, fin⟩) hs
theorem ix_tup : IxR X (rIxT X.K) := by
  intro value slice pins s σ H x y v u Q I rx ry h hs
  obtain ⟨p, xs, i, z, rfl, rfl, hq, he, q⟩ := h
  cases rx
  obtain ⟨t, rfl⟩ := ry
  obtain ⟨its, r, pl, hz⟩ := I.tuple hq
  obtain ⟨j, h1, h2, h3, h4, h5⟩ := atI_get he
  obtain ⟨w, ew, rw'⟩ := r.get h2
  have hl := r.length
  have hn := line63
  have fin : EP X pins σ Q w s := ⟨z, H, I, rw', q⟩
  exact subscriptTail_builtinR (x := w) pl.typeIs slot_tuple_getitem.lookup
    (getItem_tuple (j := j) (Q := fun r s' => r = w ∧ EP X pins σ Q r s') pl (by omega) (by omega) (by rw [List.size_toArray, ← hl]; exact h1) (by simpa using ew) ⟨rfl, fin⟩) hs
theorem mapSeq_set (its : List Value) (n j : Nat) (u : Value) : Obj.mapSeq (·.setIfInBounds j u) { cls := .type "list", data := .seq its.toArray n } = { cls := .type "list", data := .seq (its.set j u).toArray n } := by
  simp [Obj.mapSeq]
theorem Inv.lst {pins : List (Addr × Obj)} {σ : St} {H : Hp} {s : Shared} {p : Addr} {xs : List V} (I : Inv X pins σ H s) (h : H p = some (.lst xs)) :
    ∃ (its : List Value) (n : Nat), Vals xs its ∧ s.heap.get? p = some { cls := .type "list", data := .seq its.toArray n } ∧ xs.length ≤ sizeLine := by
  obtain ⟨z, its, n, r, e⟩ := I.hok p _ h
  exact ⟨its, n, r, e, z⟩
theorem Inv.lstUpd {pins : List (Addr × Obj)} {σ : St} {H : Hp} {s : Shared} {p : Addr} {xs ys : List V} {its its' : List Value} {n n' : Nat} {f : Obj → Obj} (I : Inv X pins σ H s) (h : H p = some (.lst xs))
    (ho : s.heap.get? p = some { cls := .type "list", data := .seq its.toArray n }) (hf : f { cls := .type "list", data := .seq its.toArray n } = { cls := .type "list", data := .seq its'.toArray n' }) (r : Vals ys its') (hz : ys.length ≤ sizeLine) (t : Nat) :
    Inv X pins σ (upd H p (.lst ys)) { s with heap := s.heap.update p f, toks := t } := by
  have e : (s.heap.update p f).get? p = some { cls := .type "list", data := .seq its'.toArray n' } := by
    rw [Heap.get?_update_self f ho (by rw [hf] <;> rfl), hf]
  refine I.write (x := p) (e := p) (by rw [h]; trivial) (.inl rfl) (fun b u hb q => (Heap.get?_update_other _ _ (Ne.symm hb)).trans q) ⟨_, e⟩ ?_
  exact ⟨hz, its', n', r, e⟩
noncomputable def rSetL : V → V → V → Hp → (Hp → Prop) → Prop := fun o i v H Q => ∃ p xs k j, o = .ref p ∧ i = .int k ∧ H p = some (.lst xs) ∧ ixN xs.length k = some j ∧ Q (upd H p (.lst (xs.set j v)))
theorem set_list : PSet X rSetL := by
  intro pins s σ H o i v ov iv u Q I ro ri rv h
  obtain ⟨p, xs, k, j, rfl, rfl, hp, hj, q⟩ := h
  cases ro
  obtain ⟨t, rfl⟩ := ri
  obtain ⟨its, n, r, ho, hz⟩ := I.lst hp
  obtain ⟨h1, h2, h3, h4⟩ := ixN_seq hj
  have hl := r.length
  have hn := line63
  have I' : Inv X pins σ (upd H p (.lst (xs.set j v))) { s with heap := s.heap.update p (Obj.mapSeq (·.setIfInBounds j u)) } :=
    I.lstUpd hp ho (mapSeq_set its n j u) (r.set rv j) (by rw [List.length_set]; exact hz) s.toks
  by_cases h0 : 0 ≤ k
  · have hk : k.toNat = j := by
      rw [seqIndex_of h0 h4] at h1
      exact Option.some.inj h1
    exact PySem.W.ki_setAt ho h0 (by omega) (by rw [List.size_toArray, ← hl]; exact h4) (by rw [hk]; exact ⟨_, I', q⟩)
  · have hk : (k + (its.toArray.size : Int)).toNat = j := by
      rw [seqIndex_neg (by omega) h3] at h1
      rw [List.size_toArray, ← hl]
      exact Option.some.inj h1
    exact PySem.W.ki_setBack ho (by omega) (by rw [List.size_toArray, ← hl]; exact h3) (by omega) (by rw [hk]; exact ⟨_, I', q⟩)
theorem slice_bounds (lo hi : Option Int) (n : Nat) : (sliceBounds lo hi none n).1 = ((HT.sIx n 0 lo : Nat) : Int) ∧ (sliceBounds lo hi none n).2.1 = ((HT.sIx n n hi : Nat) : Int) ∧ (sliceBounds lo hi none n).2.2 = 1 := by
  refine ⟨?_, ?_, rfl⟩
  · cases lo with
    | none => simp [sliceBounds, HT.sIx]
    | some i =>
      simp only [sliceBounds, HT.sIx, Option.getD_none, show (1 : Int) > 0 by decide, if_true]
      by_cases h : i < 0
      · simp only [h, if_true] <;> omega
      · simp only [h, if_false] <;> omega
  · cases hi with
    | none => simp [sliceBounds, HT.sIx]
    | some i =>
      simp only [sliceBounds, HT.sIx, Option.getD_none, show (1 : Int) > 0 by decide, if_true]
      by_cases h : i < 0
      · simp only [h, if_true] <;> omega
      · simp only [h, if_false] <;> omega
theorem slicePick_cut (its : List Value) (lo hi : Option Int) : slicePick its.toArray lo hi none = ((its.drop (HT.sIx its.length 0 lo)).take (HT.sIx its.length its.length hi - HT.sIx its.length 0 lo)).toArray := by
  obtain ⟨h1, h2, h3⟩ := slice_bounds lo hi its.toArray.size
  unfold slicePick
  rw [h1, h2, h3]
  simp only [sliceRange_one, pick_run, List.size_toArray] <;> rfl
noncomputable def rSlL (K : PySem.W.Frag) : V → Option Int → Option Int → Hp → VK → Prop := fun x lo hi H Q => ∃ a xs, x = .ref a ∧ SqL K H a xs ∧ ∀ p, H p = none → Q (.ref p) (upd H p (.lst (cutV xs lo hi)))
theorem sl_list : SlR X (rSlL X.K) := by
  intro pins s σ H x v vl vu lo hi sl Q I rx hs pl pu h
  obtain ⟨a, xs, rfl, hx, q⟩ := h
  cases rx
  obtain ⟨its, r, ht, hz⟩ := I.list hx
  have hlen := r.length
  refine ⟨"list", _, slot_list_getitem.lookup, ht.isList.typeIs, ?_⟩
  refine wpAny_getItem_list_slice ht.isList hs pl pu .none (by simp) ?_ (by rw [List.size_toArray] <;> omega)
  rw [slicePick_cut, ← hlen]
  refine ⟨.ref s.heap.objs.size, _, I.laid (t' := s.toks) (o := .lst (cutV xs lo hi)) (fun b ob q => Heap.get?_push_of_some _ q) (Nat.le_refl _) ?_, rfl, q _ (I.hok.fresh (Nat.le_refl _))⟩
  exact ⟨Nat.le_trans (cutV_length xs lo hi) hz, _, 0, (r.drop (HT.sIx xs.length 0 lo)).take (HT.sIx xs.length xs.length hi - HT.sIx xs.length 0 lo), Heap.get?_push_size _ rfl⟩
noncomputable def flatV : V → Bool
  | .non => true
  | .bl _ => true
  | .int _ => true
  | .str _ => true
  | _ => false
noncomputable def eqV : V → V → Bool
  | .non, .non => true
  | .bl a, .bl b => a == b
  | .bl a, .int b => (if a then 1 else 0) == b
  | .int a, .bl b => a == (if b then 1 else 0)
  | .int a, .int b => a == b
  | .str a, .str b => a == b
  | _, _ => false
theorem eqAt_V {A : Around} {s : Shared} {y x : V} {u v : Value} (ry : RelV y u) (rx : RelV x v) (fy : flatV y = true) (fx : flatV x = true) : SeqAt.EqAt A s u v (eqV y x) := by
  cases y with
  | non =>
    cases ry
    cases x with
    | non => cases rx; exact SeqAt.EqAt.same _
    | bl b => cases rx; exact SeqAt.EqAt.none_bool b
    | int b => obtain ⟨t, rfl⟩ := rx; exact SeqAt.EqAt.none_int b t
    | str b => obtain ⟨t, rfl⟩ := rx; exact SeqAt.EqAt.none_str b t
    | _ => exact absurd (show false = true from fx) Bool.false_ne_true
  | bl a =>
    cases ry
    cases x with
    | non => cases rx; exact SeqAt.EqAt.bool_none a
    | bl b => cases rx; exact SeqAt.EqAt.bool_bool a b
    | int b => obtain ⟨t, rfl⟩ := rx; exact SeqAt.EqAt.bool_int a b t
    | str b => obtain ⟨t, rfl⟩ := rx; exact SeqAt.EqAt.bool_str a b t
    | _ => exact absurd (show false = true from fx) Bool.false_ne_true
  | int a =>
    obtain ⟨t', rfl⟩ := ry
    cases x with
    | non => cases rx; exact SeqAt.EqAt.int_none a t'
    | bl b => cases rx; exact SeqAt.EqAt.int_bool a t' b
    | int b => obtain ⟨t, rfl⟩ := rx; exact SeqAt.EqAt.int_int a t' b t
    | str b => obtain ⟨t, rfl⟩ := rx; exact SeqAt.EqAt.int_str a t' b t
    | _ => exact absurd (show false = true from fx) Bool.false_ne_true
  | str a =>
    obtain ⟨t', rfl⟩ := ry
    cases x with
    | non => cases rx; exact SeqAt.EqAt.str_none a t'
    | bl b => cases rx; exact SeqAt.EqAt.str_bool a t' b
    | int b => obtain ⟨t, rfl⟩ := rx; exact SeqAt.EqAt.str_int a t' b t
    | str b => obtain ⟨t, rfl⟩ := rx; exact SeqAt.EqAt.str_str a t' b t
    | _ => exact absurd (show false = true from fx) Bool.false_ne_true
  | _ => exact absurd (show false = true from fy) Bool.false_ne_true
noncomputable def eqU (x : V) (u : Value) : Bool := match u with
  | .none => eqV .non x
  | .bool b => eqV (.bl b) x
  | .int i _ => eqV (.int i) x
  | .str z _ => eqV (.str z) x
  | _ => false
theorem eqU_of {x y : V} {u : Value} (r : RelV y u) (f : flatV y = true) : eqU x u = eqV y x := by
  cases y with
  | non => cases r; rfl
  | bl b => cases r; rfl
  | int i => obtain ⟨t, rfl⟩ := r; rfl
  | str z => obtain ⟨t, rfl⟩ := r; rfl
  | _ => exact absurd (show false = true from f) Bool.false_ne_true
theorem any_eqU {x : V} : ∀ {xs : List V} {us : List Value}, Vals xs us → xs.all flatV = true → us.any (eqU x) = xs.any fun y => eqV y x
  | _, _, .nil, _ => rfl
  | y :: xs, u :: us, .cons r t, f => by
    rw [List.all_cons, Bool.and_eq_true] at f
    rw [List.any_cons, List.any_cons, eqU_of r f.1, any_eqU t f.2]
theorem mem_eqAt {A : Around} {s : Shared} {x : V} {v : Value} (rx : RelV x v) (fx : flatV x = true) : ∀ {xs : List V} {us : List Value}, Vals xs us → xs.all flatV = true → ∀ u ∈ us, SeqAt.EqAt A s u v (eqU x u)
  | _, _, .nil, _ => fun u hu => by cases hu
  | y :: xs, u :: us, .cons r t, f => fun u' hu => by
    rw [List.all_cons, Bool.and_eq_true] at f
    rcases List.mem_cons.mp hu with rfl | hu
    · rw [eqU_of r f.1]; exact eqAt_V r rx f.1 fx
    · exact mem_eqAt rx fx t f.2 u' hu
noncomputable def inV (x : V) (xs : List V) : Bool := xs.any fun y => eqV y x
noncomputable def rIn (K : PySem.W.Frag) (neg : Bool) : R2 := fun x y H Q => ∃ p xs, y = .ref p ∧ (SqL K H p xs ∨ SqT K H p xs) ∧ flatV x = true ∧ xs.all flatV = true ∧ Q (.bl (if neg then !inV x xs else inV x xs)) H
theorem op_in_seq : OpR X (compareOp .In) (rIn X.K false) := by
  intro pins s σ H x y v u Q I rx ry h
  obtain ⟨p, xs, rfl, hq, fx, fs, q⟩ := h
  cases ry
  rcases hq with hq | hq
  · obtain ⟨its, r, pl, hz⟩ := I.list hq
    refine SeqAt.in_listAt (eqU x) pl.isList (fun w hw => mem_eqAt rx fx r fs w (by simpa using hw)) ⟨.bl _, H, I, rfl, ?_⟩
    rw [show its.toArray.any (eqU x) = its.any (eqU x) by simp, any_eqU r fs]
    exact q
  · obtain ⟨its, r, pl, hz⟩ := I.tuple hq
    refine SeqAt.in_tupleAt (eqU x) pl (fun w hw => mem_eqAt rx fx r fs w (by simpa using hw)) ⟨.bl _, H, I, rfl, ?_⟩
    rw [show its.toArray.any (eqU x) = its.any (eqU x) by simp, any_eqU r fs]
    exact q
theorem op_notIn_seq : OpR X (compareOp .NotIn) (rIn X.K true) := by
  intro pins s σ H x y v u Q I rx ry h
  obtain ⟨p, xs, rfl, hq, fx, fs, q⟩ := h
  cases ry
  rcases hq with hq | hq
  · obtain ⟨its, r, pl, hz⟩ := I.list hq
    refine SeqAt.notIn_listAt (eqU x) pl.isList (fun w hw => mem_eqAt rx fx r fs w (by simpa using hw)) ⟨.bl _, H, I, rfl, ?_⟩
    rw [show its.toArray.any (eqU x) = its.any (eqU x) by simp, any_eqU r fs]
    exact q
  · obtain ⟨its, r, pl, hz⟩ := I.tuple hq
    refine SeqAt.notIn_tupleAt (eqU x) pl (fun w hw => mem_eqAt rx fx r fs w (by simpa using hw)) ⟨.bl _, H, I, rfl, ?_⟩
    rw [show its.toArray.any (eqU x) = its.any (eqU x) by simp, any_eqU r fs]
    exact q
theorem call_len_seq : CallR X (.builtin "len") (fun xs H Q => ∃ p ys, xs = [.ref p] ∧ (SqL X.K H p ys ∨ SqT X.K H p ys) ∧ Q (.int ys.length) H) := by
  intro pins s σ H xs us Q I r h
  obtain ⟨p, ys, rfl, hq, q⟩ := h
  obtain ⟨u, rfl, rx⟩ := vals1 r
  cases rx
  have hn := line63
  rcases hq with hq | hq
  · obtain ⟨its, r', pl, hz⟩ := I.list hq
    have hlen := r'.length
    exact Calls.call_len_list pl.isList (by simp only [List.size_toArray] <;> omega) ⟨.int ys.length, H, I.tok _, ⟨s.toks + 1, by rw [List.size_toArray, hlen]⟩, q⟩
  · obtain ⟨its, r', pl, hz⟩ := I.tuple hq
    have hlen := r'.length
    exact len_tuple pl (by simp only [List.size_toArray] <;> omega) ⟨.int ys.length, H, I.tok _, ⟨s.toks + 1, by rw [List.size_toArray, hlen]⟩, q⟩
theorem call_list_of : CallR X (.type "list") (fun xs H Q => ∃ p ys, xs = [.ref p] ∧ (SqL X.K H p ys ∨ SqT X.K H p ys) ∧ ∀ l, H l = none → Q (.ref l) (upd H l (.lst ys))) := by
  intro pins s σ H xs us Q I r h
  obtain ⟨p, ys, rfl, hq, q⟩ := h
  obtain ⟨u, rfl, rx⟩ := vals1 r
  cases rx
  have fin : ∀ (its : List Value), Vals ys its → ys.length ≤ sizeLine → ∀ (h' : Heap) (c' : Nat), (∀ b o', s.heap.get? b = some o' → h'.get? b = some o') →
      h'.get? s.heap.objs.size = some { cls := .type "list", dict := none, data := .seq its.toArray c', slots := #[] } → EP X pins σ Q (.ref s.heap.objs.size) { s with heap := h' } := fun its r' hz h' c' kp e =>
    ⟨.ref s.heap.objs.size, _, I.laid (t' := s.toks) kp (Nat.le_refl _) (show ObjOk X.prog X.w _ h' _ (.lst ys) from ⟨hz, its, c', r', e⟩), rfl, q _ (I.hok.fresh (Nat.le_refl _))⟩
  rcases hq with hq | hq
  · obtain ⟨its, r', pl, hz⟩ := I.list hq
    have hlen := r'.length
    obtain ⟨o, ho, hc, n, hd⟩ := pl.isList
    exact call_list_seq p (.inl rfl) ho hc hd (fun h' c' kp e => fin its r' hz h' c' kp e) (by simp only [List.size_toArray] <;> omega)
  · obtain ⟨its, r', pl, hz⟩ := I.tuple hq
    have hlen := r'.length
    obtain ⟨o, ho, hc, n, hd⟩ := pl
    exact call_list_seq p (.inr rfl) ho hc hd (fun h' c' kp e => fin its r' hz h' c' kp e) (by simp only [List.size_toArray] <;> omega)
theorem call_tuple_of : CallR X (.type "tuple") (fun xs H Q => ∃ p ys, xs = [.ref p] ∧ ((SqL X.K H p ys ∧ ∀ l, H l = none → Q (.ref l) (upd H l (.tup ys))) ∨ (SqT X.K H p ys ∧ Q (.ref p) H))) := by
  intro pins s σ H xs us Q I r h
  obtain ⟨p, ys, rfl, h⟩ := h
  obtain ⟨u, rfl, rx⟩ := vals1 r
  cases rx
  rcases h with ⟨hq, q⟩ | ⟨hq, q⟩
  · obtain ⟨its, r', pl, hz⟩ := I.list hq
    have hlen := r'.length
    refine call_tuple_list pl.isList (fun h' kp => ?_) (by simp only [List.size_toArray] <;> omega)
    have I1 : Inv X pins σ H { s with heap := h' } := I.kept (t' := s.toks) kp
    have I2 : Inv X pins σ (upd H h'.objs.size (.tup ys)) { s with heap := h'.push { cls := .type "tuple", data := .seq its.toArray } } :=
      I1.laid (t' := s.toks) (fun b o e => Heap.get?_push_of_some _ e) (Nat.le_refl _) (show ObjOk X.prog X.w _ _ _ (.tup ys) from ⟨hz, its, r', IsTup.new _ _, NoD.new _ _⟩)
    exact ⟨.ref h'.objs.size, _, I2, rfl, q _ (I1.hok.fresh (Nat.le_refl _))⟩
  · obtain ⟨its, r', pl, hz⟩ := I.tuple hq
    exact call_tuple_same pl ⟨.ref p, H, I, rfl, q⟩
noncomputable def tyV (K : PySem.W.Frag) (T : String) (x : V) (H : Hp) : Prop := match x with
  | .str _ => T = "str"
  | .int _ => T = "int"
  | .ref p => (T = "list" ∧ ∃ xs, SqL K H p xs) ∨ (T = "tuple" ∧ ∃ o, K.lookup p = some o ∧ o.cls = .type "tuple" ∧ o.dict = none) ∨
      (T = "dict" ∧ ((∃ kvs, H p = some (.dK kvs)) ∨ ∃ kvs, H p = some (.dT kvs))) ∨ (T = "set" ∧ ∃ S n, H p = some (.set S n)) ∨ (T = "tuple" ∧ ∃ xs, H p = some (.tup xs))
  | _ => False
theorem tyV_is {pins : List (Addr × Obj)} {σ : St} {H : Hp} {s : Shared} {T : String} {x : V} {v : Value} (I : Inv X pins σ H s) (r : RelV x v) (ty : tyV X.K T x H) :
    s.TypeIs v T ∧ ∀ a, v = .ref a → ∃ ob, s.heap.get? a = some ob ∧ ob.dict = none := by
  cases x with
  | str z =>
    obtain ⟨t, rfl⟩ := r
    cases (show T = "str" from ty)
    exact ⟨typeIs_str s z t, fun _ e => nomatch e⟩
  | int i =>
    obtain ⟨t, rfl⟩ := r
    cases (show T = "int" from ty)
    exact ⟨typeIs_int s i t, fun _ e => nomatch e⟩
  | ref p =>
    cases r
    rcases ty with ⟨rfl, xs, hq⟩ | ⟨rfl, o, hk, hc, hd⟩ | ⟨rfl, hk⟩ | ⟨rfl, S, n, hk⟩ | ⟨rfl, xs, hk⟩
    · obtain ⟨its, _, pl, _⟩ := I.list hq
      refine ⟨pl.isList.typeIs, fun a e => ?_⟩
      cases e
      obtain ⟨o, n, e, c, hd, _⟩ := pl
      exact ⟨o, e, hd⟩
    · refine ⟨⟨o, I.kIn p o hk, hc⟩, fun a e => ?_⟩
      cases e
      exact ⟨o, I.kIn _ o hk, hd⟩
    · have z : ∃ o, s.heap.get? p = some o ∧ o.ExactDict := by
        rcases hk with ⟨kvs, hk⟩ | ⟨kvs, hk⟩
        · obtain ⟨_, _, _, _, o, _, _, e, ex, _⟩ := I.hok p _ hk
          exact ⟨o, e, ex⟩
        · obtain ⟨_, _, _, _, o, _, _, e, ex, _⟩ := I.hok p _ hk
          exact ⟨o, e, ex⟩
      obtain ⟨o, e, ex⟩ := z
      refine ⟨⟨o, e, ex.1⟩, fun a e2 => ?_⟩
      cases e2
      exact ⟨o, e, ex.2.1⟩
    · obtain ⟨o, _, _, _, e, ex, _⟩ := I.hok p _ hk
      refine ⟨⟨o, e, ex.1⟩, fun a e2 => ?_⟩
      cases e2
      exact ⟨o, e, ex.2.1⟩
    · obtain ⟨_, _, _, ⟨o, e, c, _⟩, nd⟩ := I.hok p _ hk
      refine ⟨⟨o, e, c⟩, fun a e2 => ?_⟩
      cases e2
      exact ⟨o, e, nd _ e⟩
  | _ => exact False.elim ty
noncomputable def tBM (K : PySem.W.Frag) (T : String) (r : V → List V → Hp → VK → Prop) (to : TE) (t : TA) : TE := fun σ H Q => to σ H fun x H1 => tyV K T x H1 ∧ t σ H1 fun xs H2 => r x xs H2 Q
variable {o e : Expr} {es : List Expr} {to : TE} {t : TA} {name : Str} {apos cpos : Pos} {T id : String} {r : V → List V → Hp → VK → Prop}
theorem pe_bm (pa : PlainAttrs T) (slot : Slot T name id) (hty : typeOf (.builtin id) = pure (.type "method_descriptor")) (hm : MtR X id r) (ho : PE X o to) (ha : PA X (e :: es) t)
    (hbase : attributeBase o name X.env (eval o X.env) = eval o X.env := by rfl)
    (hfew : ((backTo cpos (starEach (e :: es) X.env)).all (fun x => !x.1) && (backToKw cpos (keywordEach [] X.env)).all (fun x => x.1.isSome)
      && decide ((e :: es).length + ([] : List Keyword).length + (if ([] : List Keyword).isEmpty then 0 else 1) < 30)) = true := by rfl)
    (hline : (apos.endLine == cpos.line) = true := by rfl) (hs : starEach (e :: es) X.env = (false, eval e X.env) :: starEach es X.env := by rfl) (hplain : (backTo cpos (starEach es X.env)).any (·.1) = false := by rfl) :
    PE X (.Call (.Attribute o name apos) (e :: es) [] cpos) (tBM X.K T r to t) := by
  intro pins s σ H Q I h
  refine wpAny_Call_method_late hbase hfew hline rfl (thn (ho pins s σ H _ I h) fun v s1 ⟨x, H1, I1, r1, ty, q1⟩ => ?_)
  obtain ⟨h1, h2⟩ := tyV_is I1 r1 ty
  refine ⟨T, id, pa, slot, hty, h1, h2, ?_⟩
  have hA := ha cpos pins s1 σ H1 _ I1 q1
  rw [hs] at hA ⊢
  refine Calls.callWith_builtin (by show (false || (backTo cpos (starEach es X.env)).any (·.1)) = false; rw [hplain] <;> rfl) (Calls.evalArgs_plain ?_)
  exact thn hA fun us s2 hq5 => by obtain ⟨vs, H2, I2, r2, q2⟩ := hq5; exact hm pins s2 σ H2 x vs v us Q I2 r1 r2 q2
end
end L2
namespace L2
open PySem PySem.Spec PyProof.Rows
noncomputable def MtM (X : Cx) (id : String) (r : V → List V → Hp → VK → Prop) : Prop :=
  ∀ (pins : List (Addr × Obj)) (s : Shared) (σ : St) (H : Hp) (x : V) (xs : List V) (v : Value) (us : List Value) (Q : VK), Inv X pins σ H s → RelV x v → Vals xs us → r x xs H Q →
    wpAny (model X.prog X.w) X.A (call (.builtin id) (v :: us)) (EP X pins σ Q) X.xe s
theorem Vals.one : ∀ {x : V} {us : List Value}, Vals [x] us → ∃ u, us = [u] ∧ RelV x u
  | _, _, .cons r .nil => ⟨_, rfl, r⟩
theorem Vals.eraseIdx : ∀ {xs : List V} {us : List Value} (i : Nat), Vals xs us → Vals (xs.eraseIdx i) (us.eraseIdx i)
  | _, _, _, .nil => .nil
  | _, _, 0, .cons _ t => t
  | _, _, i + 1, .cons r t => .cons r (Vals.eraseIdx i t)
theorem Vals.rep {xs : List V} {us : List Value} (h : Vals xs us) : ∀ k : Nat, Vals (List.replicate k xs).flatten (List.replicate k us).flatten
  | 0 => .nil
  | k + 1 => by
    rw [List.replicate_succ, List.replicate_succ, List.flatten_cons, List.flatten_cons]
    exact Vals.append h (Vals.rep h k)
theorem len_erase {α : Type} : ∀ (l : List α) (i : Nat), (l.eraseIdx i).length ≤ l.length
  | [], _ => Nat.le_refl _
  | _ :: _, 0 => Nat.le_succ _
  | _ :: r, i + 1 => Nat.succ_le_succ (len_erase r i)
section
variable {X : Cx} {pins : List (Addr × Obj)} {σ : St} {H : Hp} {s : Shared} {l b : Addr} {xs ys zs : List V}
theorem Inv.lset {its its' : List Value} {n : Nat} {f : Array Value → Array Value} {t' : Nat} (I : Inv X pins σ H s) (hH : H l = some (.lst xs))
    (e : s.heap.get? l = some { cls := .type "list", data := .seq its.toArray n }) (hf : f its.toArray = its'.toArray) (hv : Vals ys its') (hz : ys.length ≤ sizeLine) :
    Inv X pins σ (upd H l (.lst ys)) { s with heap := s.heap.update l (Obj.mapSeq f), toks := t' } := by
  have q := PySem.IsL.update e f
  rw [hf] at q
  refine I.write (x := l) (e := l) (by rw [hH]; exact trivial) (.inl rfl) (fun b' u hb hu => (Heap.get?_update_other s.heap (Obj.mapSeq f) (Ne.symm hb)).trans hu) ⟨_, q⟩ ?_
  exact ⟨hz, its', _, hv, q⟩
theorem Inv.lnew {its : List Value} {t' : Nat} (I : Inv X pins σ H s) (hv : Vals ys its) (hz : ys.length ≤ sizeLine) :
    Inv X pins σ (upd H s.heap.objs.size (.lst ys)) { s with heap := s.heap.push { cls := .type "list", data := .seq its.toArray }, toks := t' } :=
  I.laid (fun _ _ q => Heap.get?_push_of_some _ q) (Nat.le_refl _) ⟨hz, its, 0, hv, Heap.get?_push_size _ rfl⟩
theorem Inv.fresh (I : Inv X pins σ H s) : H s.heap.objs.size = none := I.hok.fresh (Nat.le_refl _)
theorem Inv.lstM (I : Inv X pins σ H s) (hH : H l = some (.lst xs)) : xs.length ≤ sizeLine ∧ ∃ (its : List Value) (n : Nat), Vals xs its ∧ xs.length = its.length ∧ s.heap.get? l = some { cls := .type "list", data := .seq its.toArray n } := by
  obtain ⟨z, its, n, r, e⟩ := I.hok l _ hH
  exact ⟨z, its, n, r, r.length, e⟩
end
section
variable {X : Cx}
noncomputable def rAppend : V → List V → Hp → VK → Prop := fun x vs H Q => ∃ l xs y, x = .ref l ∧ vs = [y] ∧ H l = some (.lst xs) ∧ xs.length < sizeLine ∧ Q .non (upd H l (.lst (xs ++ [y])))
theorem mt_append : MtM X "list.append" rAppend := by
  intro pins s σ H x vs v us Q I rx rv h
  obtain ⟨l, xs, y, rfl, rfl, hH, hz, q⟩ := h
  cases rx
  obtain ⟨u, rfl, ru⟩ := rv.one
  obtain ⟨z, its, n, r, hl, e⟩ := I.lstM hH
  refine call_meets F.slot_list_append ⟨_, e, rfl⟩ F.entry_list_append (F.args_list_append_2 _ _) (PySem.list_append l its.toArray n u (by rw [List.size_toArray]; omega)) ⟨e, ?_⟩
  refine ⟨.non, _, I.lset (its' := its ++ [u]) hH e (by simp) (r.append (.cons ru .nil)) ?_, rfl, q⟩
  rw [List.length_append, List.length_singleton]
  omega
noncomputable def rPopAt : V → List V → Hp → VK → Prop := fun x vs H Q => ∃ l xs i k y, x = .ref l ∧ vs = [.int i] ∧ H l = some (.lst xs) ∧ -(2 ^ 63) ≤ i ∧ i < 2 ^ 63 ∧ seqIndex? i xs.length = some k ∧ xs[k]? = some y ∧ Q y (upd H l (.lst (xs.eraseIdx k)))
theorem mt_popAt : MtM X "list.pop" rPopAt := by
  intro pins s σ H x vs v us Q I rx rv h
  obtain ⟨l, xs, i, k, y, rfl, rfl, hH, h1, h2, hk, hy, q⟩ := h
  cases rx
  obtain ⟨u, rfl, ru⟩ := rv.one
  obtain ⟨t, rfl⟩ := ru
  obtain ⟨z, its, n, r, hl, e⟩ := I.lstM hH
  obtain ⟨w, hw, rw'⟩ := r.get hy
  refine call_meets F.slot_list_pop ⟨_, e, rfl⟩ F.entry_list_pop (F.args_list_pop_2 _ _)
    (MeetsSeq.list_pop_at l its.toArray n i t k w (fitsIndex_both h1 h2) (by rw [List.size_toArray, ← hl]; exact hk) (by rw [← Array.getElem?_toList]; exact hw) (by rw [List.size_toArray]; omega)) ⟨e, ?_⟩
  refine ⟨y, _, I.lset (its' := its.eraseIdx k) hH e ?_ (r.eraseIdx k) ?_, rw', q⟩
  · show its.toArray.eraseIdxIfInBounds k = (its.eraseIdx k).toArray
    rw [List.eraseIdxIfInBounds_toArray]
  · have := len_erase xs k
    omega
noncomputable def rCat : R2 := fun x y H Q => ∃ l b xs zs, x = .ref l ∧ y = .ref b ∧ H l = some (.lst xs) ∧ H b = some (.lst zs) ∧ xs.length + zs.length ≤ sizeLine ∧ ∀ p, H p = none → Q (.ref p) (upd H p (.lst (xs ++ zs)))
theorem op_cat : OpR X (binaryOp .Add) rCat := by
  intro pins s σ H x y v u Q I rx ry h
  obtain ⟨l, b, xs, zs, rfl, rfl, hH, hB, hz, q⟩ := h
  cases rx
  cases ry
  obtain ⟨z, its, n, r, hl, e⟩ := I.lstM hH
  obtain ⟨z2, its2, n2, r2, hl2, e2⟩ := I.lstM hB
  refine PySem.P.add_list e e2 ?_ (by rw [List.size_toArray, List.size_toArray]; omega)
  have ea : its.toArray ++ its2.toArray = (its ++ its2).toArray := by simp
  rw [ea]
  exact ⟨.ref _, _, I.lnew (t' := s.toks) (r.append r2) (by rw [List.length_append]; omega), rfl, q _ I.fresh⟩
end
section
variable {prog : Program} {w : World} {A : Around} {E : Value → Shared → Prop} {s : Shared}
set_option maxRecDepth 100000 in
end
section
variable {X : Cx}
end
end L2
namespace Att
open PySem PySem.W PySem.Calls PyProof.Rows
theorem ints_of_wellAll {P : Params} {h : Heap} : ∀ (ns : List Int) (vs : List Value), WellAll P h vs (ns.map WData.int) → IntsAre vs ns := by
  intro ns
  induction ns with
  | nil =>
    intro vs w
    rw [List.map_nil] at w
    cases w
    exact .nil
  | cons n ns ih =>
    intro vs w
    rw [List.map_cons] at w
    cases w with
    | cons a b =>
      cases a
      exact .cons _ _ (ih _ b)
theorem script_of {l : OpenLaw} {n : Nat} (hn : l.most = some n) {P : Params} {h : Heap} {args : List WData} {vals : List Value}
    (hpre : l.row.toRowW.claim.pre args = true) (hwl : WellAll P h vals args) :
    ∃ a vs ns, vals = [Value.ref a] ∧ args = [WData.list (ns.map WData.int)] ∧ h.get? a = some { cls := .type "list", data := .seq vs.toArray } ∧ IntsAre vs ns ∧ ns.length ≤ n := by
  have hsh : WShape.hasAll [] args [.list .int] = true := (pre_splitW hpre).1
  have hc : l.pre.holds [] { args := args } = true := (pre_splitW hpre).2
  obtain ⟨d, r, rfl, h1, h2⟩ := hasAllW_cons hsh
  obtain rfl := hasAllW_nil h2
  obtain ⟨xs, rfl, h3⟩ := hasW_list h1
  obtain ⟨ns, rfl⟩ := items_int h3
  have hlen : ns.length ≤ n := by
    unfold OpenLaw.pre at hc
    have h4 : (WTm.not (.lt (.lit (.int (n : Int))) (.len (.arg 0)))).holds [] { args := [.list (ns.map .int)] } = true := by
      have h4 := (holds_andW hc).1
      rw [hn] at h4
      exact h4
    have h5 := condW_of h4 (w_not (w_lt w_lit (w_len_list (w_arg rfl))))
    rw [List.length_map] at h5
    refine Nat.le_of_not_lt fun q => ?_
    have q' : (n : Int) < ((ns.length : Nat) : Int) := by omega
    first
      | (rw [decide_eq_true q'] at h5; exact absurd h5 (by decide))
      | (simp at h5; omega)
  cases hwl with
  | cons w1 w2 =>
    cases w2
    cases w1 with
    | list ho hall => exact ⟨_, _, ns, rfl, rfl, ho, ints_of_wellAll ns _ hall, hlen⟩
theorem post_true (l : OpenLaw) (args : List WData) : l.row.toRowW.claim.post args (.bool true) args = true :=
  postW_of (r := l.row.toRowW) (X := (true == true))
    (show WShape.has [] (.bool true) .bool = true by first | rfl | decide | simp [WShape.has, WShape.arms, WShape.armsAll])
    (show (WTm.eq .res (.lit (.bool true))).value [] { args := args, res := some (.bool true), after := args } = some (.bool (true == true)) from w_eq_bool (w_res rfl) w_lit) rfl
theorem attach_call {l : OpenLaw} {n : Nat} {q : Program} {loose : List Str} {XP : (Str → Option Value) → Heap → Prop} {YP : World → Heap → Prop} {d : DefRec}
    (hn : l.most = some n) (hdf : d.params.defaults = [])
    (call : ∀ (w : World) (s₀ s₁ : Shared) (mg mb : Str → Option Value) (fa : Addr) (o : Obj) (pm cd doc : Value) (a : Addr) (vs : List Value) (ns : List Int),
      Ground q loose [] XP w s₀ mg mb s₁.heap → YP w s₁.heap →
      s₁.heap.get? fa = some o → o.data = .func (docDef d.name d.params d.body d.scope pm cd doc) → s₁.heap.CodeRec cd d.name → mg d.name = some (.ref fa) →
      s₁.heap.get? a = some { cls := .type "list", data := .seq vs.toArray } → IntsAre vs ns → ns.length ≤ n → s₁.gens = #[] →
      codeAny (model l.prog w) callerA (.call (.ref fa) ⟨[.ref a], []⟩) (fun r s' => r = .ok (.ret (.bool true)) ∧ OldK s₁.heap s'.heap ∧ s'.os = s₁.os ∧ AllBare s'.gens) s₁) :
    WalkO q loose XP YP l.row.toRowW d [] (fun f vs => PySem.call f vs) := by
  intro w s₀ s₁ mg mb G Y fa o pm cd doc dV kV ho hd hcd hD hmg hg args vals as hpre hlay hrd hwl hlo
  obtain rfl : dV = .none := Dflts.none hD hdf
  obtain rfl : kV = .none := Dflts.noKw hD
  obtain ⟨a, vs, ns, rfl, rfl, hobj, hints, hlen⟩ := script_of hn hpre hwl
  refine enter_call (codeAny_mono (call w s₀ s₁ mg mb fa o pm cd doc a vs ns G Y ho (fd_plain hd) hcd hmg hobj hints hlen hg) fun r s' hq => ?_)
  obtain ⟨rfl, h2, h3, h4⟩ := hq
  exact ⟨.inl ⟨.bool true, .bool true, [], rfl, fun _ => rfl, .bool true, post_true l _, fun _ => ⟨List.Pairwise.nil, fun _ hm => (nomatch hm)⟩⟩, h2, h3, h4⟩
section
variable {prog : Program} {w : World} {A : Around} {E : Value → Shared → Prop} {s : Shared} {K : Frag}
end
end Att
namespace L2
open PySem PySem.Spec PyProof.Rows
theorem vals_ints : ∀ {vs : List Value} {ns : List Int}, IntsAre vs ns → Vals (ns.map V.int) vs
  | _, _, .nil => .nil
  | _, _, .cons n t h => .cons ⟨t, rfl⟩ (vals_ints h)
noncomputable def Only (H : Hp) : Prop := ∀ b, H b = none ∨ (∃ o xs, H b = some (.frz o (.lst xs))) ∨ ∃ q, H b = some (.tbl q)
structure TabsOk (K : PySem.W.Frag) (q : Program) : Prop where
  nd : ((lamTabs K).map (·.2.2)).Nodup
  rc : ∀ t ∈ lamTabs K, ∃ e, (recsOf q).find? (fun e => e.name == t.1) = some e
theorem lamTabs_in {K : PySem.W.Frag} {t : Str × Addr × Addr} (h : t ∈ lamTabs K) : PySem.W.tabIn K t.1 = some (t.2.1, t.2.2) := by
  obtain ⟨x, _, e⟩ := List.mem_filterMap.mp h
  cases q : PySem.W.tabIn K x with
  | none => rw [q] at e; cases e
  | some p => rw [q] at e; cases e; exact q
noncomputable def tabH (K : PySem.W.Frag) (a : Addr) (u : Option HO) : Hp := fun b => if b = a then u else ((lamTabs K).find? fun t => t.2.2 == b).map fun t => .tbl (lamQ t.1)
theorem tab_found {l : List (Str × Addr × Addr)} (nd : (l.map (·.2.2)).Nodup) {t : Str × Addr × Addr} (h : t ∈ l) : l.find? (fun u => u.2.2 == t.2.2) = some t := by
  induction l with
  | nil => cases h
  | cons u l ih =>
    rw [List.map_cons, List.nodup_cons] at nd
    rw [List.find?_cons]
    by_cases e : (u.2.2 == t.2.2) = true
    · rw [e]
      rcases List.mem_cons.1 h with z | z
      · rw [z]
      · exact absurd (List.mem_map.2 ⟨t, z, (eq_of_beq e).symm⟩) nd.1
    · rw [Bool.not_eq_true] at e
      rw [e]
      rcases List.mem_cons.1 h with z | z
      · rw [z, beq_self_eq_true] at e; cases e
      · exact ih nd.2 z
theorem law_call {P : Program} {w : World} {K : PySem.W.Frag} {mg mb : Str → Option Value} {CX : CXT} {k : Nat} {fa a : Addr} {fd : FuncData} {x : Str} {sp : Sp} {s₁ : Shared} {vs : List Value} {ns : List Int}
    (KX : K.In s₁.heap) (hns : s₁.heap.Ns mainGlobals mg) (hb : s₁.heap.Ns builtinsNs mb) (hbb : ∀ x : Str, x ≠ "__name__" → mb x = bootBuiltins x) (hlim : s₁.heap.NoLimit)
    (hbm : ∃ bm ob, mg "__builtins__" = some (.ref bm) ∧ bm ≠ builtinsNs ∧ s₁.heap.get? bm = some ob ∧ ob.cls = .type "module" ∧ ob.dict = some builtinsNs ∧ ob.data = .plain)
    (hT : ∀ t ∈ lamTabs K, PySem.W.CodeHd s₁.heap t.2.1 t.2.2 ∧ s₁.heap.get? t.2.2 = some (PySem.W.tabObj #[])) (hnd : ((lamTabs K).map (·.2.2)).Nodup) (hnt : PySem.W.noTabs K = true) (hg : s₁.gens = #[])
    (ha : s₁.heap.get? a = some { cls := .type "list", data := .seq vs.toArray }) (hi : IntsAre vs ns) (hl : ns.length ≤ sizeLine) (hr : Room k callerA)
    (F : ∀ base : Heap, K.In base → base.Ns mainGlobals mg → FnOk P w K mg base CX k fa fd [x] sp) (hbind : ∀ (s : Shared) (u : Value), BindsTo s fd ⟨[u], []⟩ [(x, u)])
    (hsp : ∀ H : Hp, Only H → SqL K H a (ns.map V.int) → sp [.ref a] H (fun v _ => v = .bl true) fun _ _ _ => False)
    (hCX : ∀ H e s', CX [] H s₁ (fun _ _ _ => False) e s' → False) :
    codeAny (model P w) callerA (.call (.ref fa) ⟨[.ref a], []⟩) (fun r s' => r = .ok (.ret (.bool true)) ∧ OldK s₁.heap s'.heap ∧ s'.os = s₁.os ∧ AllBare s'.gens) s₁ := by
  have rv := vals_ints hi
  have lenV := hi.length
  have neA : ∀ t ∈ lamTabs K, t.2.2 ≠ a := fun t ht z => by
    have e := (hT t ht).2
    rw [z, ha] at e
    cases e
  -- a tracked address: the script or a table
  have core : ∀ u : Option HO, (u = none ∨ ∃ o xs, u = some (.frz o (.lst xs))) → SqL K (tabH K a u) a (ns.map V.int) → (∀ v, u = some v → ObjOk P w (tabH K a u) s₁.heap a v) → (u ≠ none → K.lookup a = none) →
      codeAny (model P w) callerA (.call (.ref fa) ⟨[.ref a], []⟩) (fun r s' => r = .ok (.ret (.bool true)) ∧ OldK s₁.heap s'.heap ∧ s'.os = s₁.os ∧ AllBare s'.gens) s₁ := by
    intro u hu hS hok1 hK
    obtain ⟨H, eH⟩ : ∃ H, tabH K a u = H := ⟨_, rfl⟩
    have atP : ∀ t ∈ lamTabs K, H t.2.2 = some (.tbl (lamQ t.1)) := fun t ht => by
      rw [← eH]
      unfold tabH
      rw [if_neg (neA t ht), tab_found hnd ht]
      rfl
    have cases3 : ∀ b, H b = none ∨ (b = a ∧ H b = u ∧ u ≠ none) ∨ ∃ t ∈ lamTabs K, t.2.2 = b ∧ H b = some (.tbl (lamQ t.1)) := fun b => by
      by_cases hb : b = a
      · cases hu2 : u with
        | none => left; rw [← eH]; unfold tabH; rw [if_pos hb, hu2]
        | some v => right; left; refine ⟨hb, ?_, by simp⟩; rw [← eH]; unfold tabH; rw [if_pos hb, hu2]
      · cases q : (lamTabs K).find? fun t => t.2.2 == b with
        | none => left; rw [← eH]; unfold tabH; rw [if_neg hb, q]; rfl
        | some t =>
          have e1 : t.2.2 = b := eq_of_beq (List.find?_some (p := fun t : Str × Addr × Addr => t.2.2 == b) q)
          have e2 := List.mem_of_find?_eq_some q
          exact .inr (.inr ⟨t, e2, e1, by rw [← e1]; exact atP t e2⟩)
    rw [eH] at hS hok1
    have hO : Only H := fun b => by
      rcases cases3 b with z | ⟨_, z, _⟩ | ⟨t, _, _, z⟩
      · exact .inl z
      · rcases hu with y | ⟨o, xs, y⟩
        · exact .inl (z.trans y)
        · exact .inr (.inl ⟨o, xs, z.trans y⟩)
      · exact .inr (.inr ⟨_, z⟩)
    have hok : HOk P w H s₁.heap := fun b v e => by
      rcases cases3 b with z | ⟨rfl, z, _⟩ | ⟨t, ht, rfl, z⟩
      · rw [z] at e; cases e
      · exact hok1 v (by rw [← z]; exact e)
      · rw [z] at e
        cases e
        exact ⟨#[], (hT t ht).2, trivial, fun pos cv e => by cases e⟩
    -- an object that is neither the script nor a table is not tracked
    have plainO : ∀ {b : Addr} {o : Obj}, s₁.heap.get? b = some o → o.cls ≠ .none → (∀ ys n, o.data ≠ .seq ys n) → H b = none := fun {b o} e hc hs => by
      rcases cases3 b with z | ⟨rfl, _, _⟩ | ⟨t, ht, rfl, z⟩
      · exact z
      · rw [ha] at e; cases e; exact absurd rfl (hs _ _)
      · rw [(hT t ht).2] at e; cases e; exact absurd rfl hc
    have nsN : ∀ {b : Addr} {o : Obj} {es : Array DictEntry} {ep : Nat}, s₁.heap.get? b = some o → o.data = .dict es ep → H b = none := fun {b o es ep} e d => by
      rcases cases3 b with z | ⟨rfl, _, _⟩ | ⟨t, ht, rfl, z⟩
      · exact z
      · rw [ha] at e; cases e; cases d
      · rw [(hT t ht).2] at e; cases e; cases d
    have base_of : ∀ {b : Addr} {o : Obj}, s₁.heap.get? b = some o → H b = none → (hidT s₁.heap H).get? b = some o := fun e n => hidT_get e n
    have nsK : ∀ {b : Addr} {m : Str → Option Value}, s₁.heap.Ns b m → (hidT s₁.heap H).Ns b m := fun {b m} ⟨o, es, ep, e, d, r⟩ => ⟨o, es, ep, base_of e (nsN e d), d, r⟩
    have hKb : K.In (hidT s₁.heap H) := fun b o e => base_of (KX b o e) (by
      rcases cases3 b with z | ⟨rfl, _, z⟩ | ⟨t, ht, rfl, z⟩
      · exact z
      · rw [hK z] at e; cases e
      · have e2 := KX _ o e
        rw [(hT t ht).2] at e2
        cases e2
        have h2 := List.all_eq_true.mp hnt (t.2.2, PySem.W.tabObj #[]) (PySem.W.mem_of_lookupK e)
        exact absurd (show false = true from h2) Bool.false_ne_true)
    have hM : Mod K mg (hidT s₁.heap H) := ⟨hKb, nsK hns, ⟨mb, nsK hb, hbb⟩, let ⟨mc, h1, h2⟩ := hlim; ⟨mc, nsK h1, h2⟩,
      let ⟨bm, ob, b1, b2, b3, b4, b5, b6⟩ := hbm; ⟨bm, ob, b1, b2, base_of b3 (plainO b3 (by rw [b4]; nofun) fun ys n z => by rw [b6] at z; cases z), b4, b5, b6⟩⟩
    have hTab : TabK K (hidT s₁.heap H) H := fun t ht => by
      obtain ⟨o, vs', file, tf, flags, tg, inF, text, tt, e1, r1, r2, r3⟩ := (hT t ht).1
      exact ⟨⟨o, vs', file, tf, flags, tg, inF, text, tt, base_of e1 (plainO e1 (by rw [r1]; nofun) fun ys n z => by rw [r2] at z; cases z), r1, r2, r3⟩, atP t ht⟩
    have e0 : Env0 P w K mg (hidT s₁.heap H) callerA [] s₁ H := ⟨rfl, hM, fun b o e => of_hidT e, Nat.le_of_eq (hidT_size _ _), trivial, fun b hb => absurd (show b ∈ ([] : List Addr) from hb) (by simp), hok, .of_eq hg, hTab⟩
    refine codeAny_mono ((F _ hKb (nsK hns)).run callerA [] s₁ H ⟨[.ref a], []⟩ [.ref a] [.ref a] _ _ hr e0 (hbind s₁ (.ref a)) (.cons rfl .nil) (hsp H hO hS)) fun r s' h => ?_
    cases r with
    | error e => exact (hCX H e s' h).elim
    | ok fl =>
      cases fl with
      | next => exact False.elim h
      | brk => exact False.elim h
      | cont => exact False.elim h
      | ret v =>
        obtain ⟨y, H', os, bare, un, hok', r', q⟩ := h
        have q' : y = .bl true := q
        subst q'
        obtain rfl : v = Value.bool true := r'
        have old : ∀ b o, s₁.heap.get? b = some o → asItWas s₁.heap s'.heap b o ∧ ∃ o', s'.heap.get? b = some o' := fun b o e => by
          rcases cases3 b with z | ⟨rfl, z, hne⟩ | ⟨t, ht, rfl, z⟩
          · have k := un.keep b o e z (by intro z; exact absurd (show b ∈ ([] : List Addr) from z) (by simp)) (by simp)
            exact ⟨.inl k, o, k⟩
          · rcases hu with y | ⟨ob, xs, y⟩
            · exact absurd y hne
            · have z1 := z.trans y
              have z2 := un.frzs b ob _ z1
              obtain ⟨e1, _⟩ := hok b _ z1
              obtain ⟨e2, _⟩ := hok' b _ z2
              rw [e] at e1; cases e1
              exact ⟨.inl e2, o, e2⟩
          · obtain ⟨ps, e2, _⟩ := hok' _ _ (un.tbls _ _ z)
            have e1 := (hT t ht).2
            rw [e] at e1
            cases e1
            exact ⟨.inr (.inl ⟨((hT t ht).1.tab (hT t ht).2).isCodeTable, rfl, #[], ps, rfl, by rw [e2, Array.empty_append]⟩), _, e2⟩
        exact ⟨rfl, ⟨fun b o e => (old b o e).1, fun b o e => (old b o e).2⟩, os, bare⟩
  cases hk : K.lookup a with
  | some o =>
    -- the script is one of the module's own objects
    have e := KX a o hk
    rw [ha] at e
    cases e
    exact core none (.inl rfl) (.inr ⟨_, vs.toArray, _, hk, rfl, rfl, rfl, by rw [List.size_toArray, lenV]; exact hl, by simpa using rv⟩) (fun v z => by cases z) fun z => absurd rfl z
  | none =>
    refine core (some (.frz { cls := .type "list", data := .seq vs.toArray } (.lst (ns.map V.int)))) (.inr ⟨_, _, rfl⟩) (.inl (.inr ⟨{ cls := .type "list", data := .seq vs.toArray }, if_pos rfl⟩)) (fun v z => ?_) fun _ => hk
    cases z
    exact ⟨ha, by rw [List.length_map]; exact hl, vs, _, rv, ha⟩
end L2
namespace L2
open PySem PySem.Spec PyProof.Rows
noncomputable abbrev KOf {K : PySem.W.Frag} {h : Heap} (_ : K.In h) : PySem.W.Frag := K
theorem walk_of {l : PySem.W.OpenLaw} {n k : Nat} {q : Program} {loose : List Str} {XP : (Str → Option Value) → Heap → Prop} {YP : World → Heap → Prop} {d : DefRec} {K : Params → PySem.W.Frag} {CX : World → CXT} {sp : World → Sp} {x : Str}
    (hn : l.most = some n) (hn2 : n ≤ sizeLine) (hdf : d.params.defaults = []) (hr : Room k callerA)
    (hY : ∀ (w : World) (h : Heap), YP w h → (K w.params).In h)
    (hTb : ∀ w : World, TabsOk (K w.params) q) (hnt : ∀ w : World, PySem.W.noTabs (K w.params) = true)
    (F : ∀ (w : World) (mg : Str → Option Value) (fa : Addr) (h : Heap), (K w.params).In h → h.Ns mainGlobals mg → mg d.name = some (.ref fa) →
      ∃ fd : FuncData, (∀ (s : Shared) (u : Value), BindsTo s fd ⟨[u], []⟩ [(x, u)]) ∧
        ∀ base : Heap, (K w.params).In base → base.Ns mainGlobals mg → FnOk l.prog w (K w.params) mg base (CX w) k fa fd [x] (sp w))
    (hsp : ∀ (w : World) (H : Hp) (a : Addr) (ns : List Int), ns.length ≤ n → Only H → SqL (K w.params) H a (ns.map V.int) → sp w [.ref a] H (fun v _ => v = .bl true) fun _ _ _ => False)
    (hCX : ∀ (w : World) (H : Hp) (s : Shared) (e : Value) (s' : Shared), CX w [] H s (fun _ _ _ => False) e s' → False) :
    PySem.W.WalkO q loose XP YP l.row.toRowW d [] (fun f vs => PySem.call f vs) := by
  refine Att.attach_call hn hdf fun w s₀ s₁ mg mb fa o pm cd doc a vs ns G Y ho hd hcd hmg hobj hints hlen hg => ?_
  have KX := hY w _ Y
  obtain ⟨fd, hb, hF⟩ := F w mg fa _ KX G.T.g hmg
  have hT : ∀ t ∈ lamTabs (K w.params), PySem.W.CodeHd s₁.heap t.2.1 t.2.2 ∧ s₁.heap.get? t.2.2 = some (PySem.W.tabObj #[]) := fun t ht => by
    obtain ⟨e, he⟩ := (hTb w).rc t ht
    exact PySem.W.tab_of G.T KX he (lamTabs_in ht)
  exact law_call KX G.T.g G.T.b G.T.builtins G.T.nolimit G.T.bmain hT (hTb w).nd (hnt w) hg hobj hints (Nat.le_trans hlen hn2) hr hF hb (fun H hO hS => hsp w H a ns hlen hO hS) fun H e s' => hCX w H s₁ e s'
end L2
namespace L2
open PySem PySem.Spec PyProof.Rows
noncomputable def defArgs (s : Stmt) : Arguments := match s with
  | .FunctionDef _ a _ _ _ _ _ _ _ _ => a
  | _ => { posonlyargs := [], args := [], vararg := none, kwonlyargs := [], kw_defaults := [], kwarg := none, defaults := [] }
noncomputable def defBody (s : Stmt) : List Stmt := match s with
  | .FunctionDef _ _ b _ _ _ _ _ _ _ => b
  | _ => []
noncomputable def defScope (s : Stmt) : Scope := match s with
  | .FunctionDef _ _ _ _ _ _ sc _ _ _ => sc
  | _ => { kind := .function, names := [], isGenerator := false, isCoroutine := false }
noncomputable abbrev CX0 : CXT := fun _ _ _ _ _ _ => False
noncomputable abbrev E0 : XK := fun _ _ _ => False
theorem pass0 {X : Cx} : Passes CX0 X E0 := fun _ _ _ _ _ _ _ h => h.elim
structure Fun (K : PySem.W.Frag) (x qual : Str) (st : Stmt) (f : Addr) (fd : FuncData) : Prop where
  ex : ∃ (oc : Value) (od : Option Addr) (kV doc pm : Value) (an : Option Addr) (cdv ct : Value) (osl : Array (Option Value)),
    fd = PySem.W.fnOf x qual (defArgs st) (defBody st) (defScope st) .none kV doc pm an cdv ct ∧ K.lookup f = some ⟨oc, od, .func fd, osl⟩ ∧ PySem.W.codeIn K cdv qual = true
  kp : PySem.W.keepIn K (.ref f) = true
section
variable {P : Program} {w : World} {K : PySem.W.Frag} {mg : Str → Option Value} {base : Heap}
theorem Fun.ok {x qual : Str} {st : Stmt} {f : Addr} {fd : FuncData} {N ps : List Str} {k : Nat} {sp : Sp} (F : Fun K x qual st f fd) (S : FnScope N ps (defScope st)) (len : ∀ vs H Q E, sp vs H Q E → vs.length = ps.length)
    (hbody : ∀ (cdv : Value) (A : Around) (outer : List Env) (s : Shared) (H : Hp) (vs : List V) (Q : VK) (E : XK), Room k (A.deeper (envOfC qual (defScope st) s.heap.objs.size f cdv)) → sp vs H Q E →
      ∃ t, PSs (cxOf CX0 P w K mg base N qual (defScope st) f cdv A outer s H E).nox (defBody st) t ∧ t { nx := fun _ H' => Q .non H', rt := Q } (start N vs) H) : FnOk P w K mg base CX0 (k + 1) f fd ps sp := by
  obtain ⟨oc, od, kV, doc, pm, an, cdv, ct, osl, rfl, lk, hcd⟩ := F.ex
  refine fn_of lk hcd S len fun A outer s H vs Q E hr hsp => ?_
  obtain ⟨t, h, q⟩ := hbody cdv A outer s H vs Q E hr hsp
  exact ⟨t, h.nox, q⟩
theorem Fun.binds {x qual : Str} {st : Stmt} {f : Addr} {fd : FuncData} {ps : List Str} (F : Fun K x qual st f fd)
    (h : ∀ (kV doc pm : Value) (an : Option Addr) (cdv ct : Value) (us : List Value), us.length = ps.length → bindArgs (PySem.W.fnOf x qual (defArgs st) (defBody st) (defScope st) .none kV doc pm an cdv ct) ⟨us, []⟩ = pure (ps.zip us)) : Binds K fd ps [] := by
  obtain ⟨oc, od, kV, doc, pm, an, cdv, ct, osl, rfl, lk, hcd⟩ := F.ex
  exact .all (h kV doc pm an cdv ct)
theorem fun_mk {x qual : Str} {st : Stmt} {f : Addr} {oc : Value} {od an : Option Addr} {osl : Array (Option Value)} {kV doc pm cdv ct : Value} (l : K.lookup f = some ⟨oc, od, .func (PySem.W.fnOf x qual (defArgs st) (defBody st) (defScope st) .none kV doc pm an cdv ct), osl⟩)
    (c : PySem.W.codeIn K cdv qual = true) (k : PySem.W.keepIn K (.ref f) = true) : Fun K x qual st f (PySem.W.fnOf x qual (defArgs st) (defBody st) (defScope st) .none kV doc pm an cdv ct) := ⟨⟨oc, od, kV, doc, pm, an, cdv, ct, osl, rfl, l, c⟩, k⟩
end
section
variable {X : Cx}
end
noncomputable def Same (H H' : Hp) : Prop := ∀ b o, H b = some o → H' b = some o
theorem Same.refl (H : Hp) : Same H H := fun _ _ h => h
theorem Same.trans {H H1 H2 : Hp} (a : Same H H1) (b : Same H1 H2) : Same H H2 := fun c o h => b c o (a c o h)
theorem Same.free {H H' : Hp} (e : Same H H') {l : Addr} (h : H' l = Option.none) : H l = Option.none := by
  cases q : H l with
  | none => rfl
  | some o =>
    rw [e l o q] at h
    cases h
end L2
namespace L2
open PySem PySem.Spec PyProof.Rows
section
variable {κ : Type} [DecidableEq κ]
noncomputable def valV (kvs : List (κ × V)) (k : κ) : Option V := (kvs.find? fun kv => decide (kv.1 = k)).map (·.2)
noncomputable def putK (kvs : List (κ × V)) (k : κ) (v : V) : List (κ × V) :=
  if (kvs.any fun kv => decide (kv.1 = k)) = true then kvs.map (fun kv => if kv.1 = k then (kv.1, v) else kv) else kvs ++ [(k, v)]
theorem valV_pos {p : κ × V} {r : List (κ × V)} {k : κ} (e : p.1 = k) : valV (p :: r) k = some p.2 := by simp [valV, List.find?_cons, e]
theorem valV_neg {p : κ × V} {r : List (κ × V)} {k : κ} (e : ¬ p.1 = k) : valV (p :: r) k = valV r k := by simp [valV, List.find?_cons, e]
theorem valV_any (k : κ) : ∀ kvs : List (κ × V), (kvs.any fun kv => decide (kv.1 = k)) = (valV kvs k).isSome
  | [] => rfl
  | p :: r => by
    rw [List.any_cons]
    by_cases e : p.1 = k
    · simp only [valV_pos e, decide_eq_true e, Bool.true_or, Option.isSome_some]
    · rw [valV_neg e, decide_eq_false e, Bool.false_or]; exact valV_any k r
theorem length_putK (kvs : List (κ × V)) (k : κ) (v : V) : (putK kvs k v).length ≤ kvs.length + 1 := by
  unfold putK
  split
  · rw [List.length_map]; omega
  · rw [List.length_append, List.length_cons, List.length_nil]; omega
theorem putK_new {kvs : List (κ × V)} {k : κ} (v : V) (h : valV kvs k = none) : putK kvs k v = kvs ++ [(k, v)] := by
  unfold putK
  rw [valV_any, h]
  exact if_neg (by decide)
theorem RelO.isSome_eq {o : Option V} {u : Option Value} (r : RelO o u) : o.isSome = u.isSome := by
  cases o with
  | none => cases u with
    | none => rfl
    | some _ => exact (show False from r).elim
  | some _ => cases u with
    | none => exact (show False from r).elim
    | some _ => rfl
theorem KV.val {kvs : List (κ × V)} {vs : List (κ × Value)} (r : KV kvs vs) (k : κ) : RelO (valV kvs k) (valueAt vs k) := by
  unfold KV at r
  induction r with
  | nil => exact True.intro
  | @cons p q ps qs h t ih =>
    obtain ⟨h1, h2⟩ := h
    by_cases e : p.1 = k
    · have e' : q.1 = k := h1.symm.trans e
      have b : valueAt (q :: qs) k = some q.2 := by simp [valueAt, List.find?_cons, e']
      rw [valV_pos e, b]; exact h2
    · have e' : ¬ q.1 = k := fun z => e (h1.trans z)
      have b : valueAt (q :: qs) k = valueAt qs k := by simp [valueAt, List.find?_cons, e']
      rw [valV_neg e, b]; exact ih
theorem KV.any {kvs : List (κ × V)} {vs : List (κ × Value)} (r : KV kvs vs) (k : κ) : (kvs.any fun kv => decide (kv.1 = k)) = vs.any fun kv => decide (kv.1 = k) := by
  unfold KV at r
  induction r with
  | nil => rfl
  | cons h t ih => rw [List.any_cons, List.any_cons, ih, h.1]
theorem KV.repl {kvs : List (κ × V)} {vs : List (κ × Value)} (r : KV kvs vs) (k : κ) {y : V} {u : Value} (ry : RelV y u) :
    KV (kvs.map fun kv => if kv.1 = k then (kv.1, y) else kv) (vs.map fun kv => if kv.1 = k then (kv.1, u) else kv) := by
  unfold KV at r ⊢
  induction r with
  | nil => exact .nil
  | @cons p q ps qs h t ih =>
    rw [List.map_cons, List.map_cons]
    refine .cons ?_ ih
    obtain ⟨h1, h2⟩ := h
    by_cases e : p.1 = k
    · rw [if_pos e, if_pos (h1.symm.trans e)]; exact ⟨h1, ry⟩
    · rw [if_neg e, if_neg (fun z => e (h1.trans z))]; exact ⟨h1, h2⟩
theorem KV.put {kvs : List (κ × V)} {vs : List (κ × Value)} (r : KV kvs vs) (k : κ) {y : V} {u : Value} (ry : RelV y u) : KV (putK kvs k y) (stored vs k u) := by
  unfold putK stored
  rw [r.any k]
  by_cases e : (vs.any fun kv => decide (kv.1 = k)) = true
  · rw [if_pos e, if_pos e]; exact r.repl k ry
  · rw [if_neg e, if_neg e]; exact Paired.snoc r ⟨rfl, ry⟩
theorem KV.length {kvs : List (κ × V)} {vs : List (κ × Value)} (r : KV kvs vs) : kvs.length = vs.length := Paired.length r
end
theorem kV_is {P : Program} {w : World} {k : Key} {u : Value} (r : RelV (kV k) u) : (mixKind P w).is k u = true := by
  cases k with
  | inl i => obtain ⟨t, e⟩ := (show ∃ t, u = Value.int i t from r); subst e; exact mixKind_int P w i t
  | inr x => obtain ⟨t, e⟩ := (show ∃ t, u = Value.str x t from r); subst e; exact mixKind_str P w x t
theorem items_are {P : Program} {w : World} : ∀ {ks : List Key} {us : List Value}, Vals (ks.map kV) us → ItemsAre (mixKind P w) ks us
  | [], _, r => by rw [List.map_nil] at r; cases r; exact .nil
  | k :: ks, _, r => by
    rw [List.map_cons] at r
    cases r with
    | cons h t => exact .cons (kV_is h) (items_are t)
noncomputable abbrev KT (H : Hp) : List (List Key × V) → List (List Key × Addr × Value) → Prop := Paired fun p q => p.1 = q.1 ∧ H q.2.1 = some (.tup (p.1.map kV)) ∧ RelV p.2 q.2.2
theorem KT.val {H : Hp} {kvs : List (List Key × V)} {xs : List (List Key × Addr × Value)} (r : KT H kvs xs) (k : List Key) : RelO (valV kvs k) ((atKey xs k).map (·.2)) := by
  induction r with
  | nil => exact True.intro
  | @cons p q ps qs h t ih =>
    obtain ⟨h1, _, h2⟩ := h
    by_cases e : p.1 = k
    · have e' : q.1 = k := h1.symm.trans e
      have b : atKey (q :: qs) k = some q.2 := by simp [atKey, List.find?_cons, e']
      rw [valV_pos e, b]; exact h2
    · have e' : ¬ q.1 = k := fun z => e (h1.trans z)
      have b : atKey (q :: qs) k = atKey qs k := by simp [atKey, List.find?_cons, e']
      rw [valV_neg e, b]; exact ih
theorem KT.repl {H : Hp} {kvs : List (List Key × V)} {xs : List (List Key × Addr × Value)} (r : KT H kvs xs) (k : List Key) {y : V} {u : Value} (ry : RelV y u) :
    KT H (kvs.map fun kv => if kv.1 = k then (kv.1, y) else kv) (xs.map (putAt k u)) := by
  induction r with
  | nil => exact .nil
  | @cons p q ps qs h t ih =>
    rw [List.map_cons, List.map_cons]
    refine .cons ?_ ih
    obtain ⟨h1, h2, h3⟩ := h
    unfold putAt
    by_cases e : p.1 = k
    · rw [if_pos e, if_pos (h1.symm.trans e)]; exact ⟨h1, h2, ry⟩
    · rw [if_neg e, if_neg (fun z => e (h1.trans z))]; exact ⟨h1, h2, h3⟩
theorem KT.put {H : Hp} {kvs : List (List Key × V)} {xs : List (List Key × Addr × Value)} (r : KT H kvs xs) (k : List Key) {b : Addr} {y : V} {u : Value} (hb : H b = some (.tup (k.map kV))) (ry : RelV y u) :
    KT H (putK kvs k y) (storedH xs k b u) := by
  have e : (kvs.any fun kv => decide (kv.1 = k)) = (atKey xs k).isSome := by
    rw [valV_any, (r.val k).isSome_eq, Option.isSome_map]
  unfold putK storedH
  rw [e]
  by_cases q : (atKey xs k).isSome = true
  · rw [if_pos q, if_pos q]; exact r.repl k ry
  · rw [if_neg q, if_neg q]; exact Paired.snoc r ⟨rfl, hb, ry⟩
theorem KT.keeps {H H' : Hp} {kvs : List (List Key × V)} {xs : List (List Key × Addr × Value)} (r : KT H kvs xs) (ht : ∀ b ys, H b = some (.tup ys) → H' b = some (.tup ys)) : KT H' kvs xs :=
  Paired.mapP r fun _ _ z => ⟨z.1, ht _ _ z.2.1, z.2.2⟩
section
variable {P : Program} {w : World} {H : Hp} {h : Heap} {a : Addr}
theorem rd_of {u : HO} (ok : HOk P w H h) (e : Rd H a u) : ObjOk P w H h a u := e.ok ok
theorem dk_rd {kvs : List (Key × V)} (ok : HOk P w H h) (e : Rd H a (.dK kvs)) : kvs.length ≤ sizeLine ∧ (a == sysModules) = false ∧ ∃ vs, KV kvs vs ∧ h.DictOf (mixKind P w) a vs :=
  show ObjOk P w H h a (.dK kvs) from rd_of ok e
theorem dk_of {kvs : List (Key × V)} (ok : HOk P w H h) (e : H a = some (.dK kvs)) : kvs.length ≤ sizeLine ∧ (a == sysModules) = false ∧ ∃ vs, KV kvs vs ∧ h.DictOf (mixKind P w) a vs := dk_rd ok (.inl e)
theorem key_of {ks : List Key} (ok : HOk P w H h) (e : H a = some (.tup (ks.map kV))) : (tupleKind (mixKind P w)).is h ks a := by
  obtain ⟨_, its, r, ⟨o, h1, h2, n, h3⟩, _⟩ := (show ObjOk P w H h a (.tup (ks.map kV)) from ok a _ e)
  exact ⟨o, its.toArray, n, h1, h2, h3, by simpa using items_are r⟩
theorem dt_rd {kvs : List (List Key × V)} (ok : HOk P w H h) (e : Rd H a (.dT kvs)) : kvs.length ≤ sizeLine ∧ (a == sysModules) = false ∧
    ∃ xs, KT H kvs xs ∧ h.DictOfH (tupleKind (mixKind P w)) a xs := by
  obtain ⟨z, y, xs, r, o, es, ep, h1, h2, h3, h4, h5⟩ := (show ObjOk P w H h a (.dT kvs) from rd_of ok e)
  refine ⟨z, y, xs, r, o, es, ep, h1, h2, h3, h4, fun x hx => ?_, h5⟩
  have all : ∀ {l : List (List Key × V)} {m : List (List Key × Addr × Value)}, KT H l m → ∀ x ∈ m, (tupleKind (mixKind P w)).is h x.1 x.2.1 := by
    intro l m q
    induction q with
    | nil => intro x hx; exact nomatch hx
    | @cons p q ps qs hq t ih =>
      intro x hx
      rcases List.mem_cons.mp hx with e | hx
      · subst e
        exact key_of ok (by rw [← hq.1]; exact hq.2.1)
      · exact ih x hx
  exact all r x hx
theorem dt_of {kvs : List (List Key × V)} (ok : HOk P w H h) (e : H a = some (.dT kvs)) : kvs.length ≤ sizeLine ∧ (a == sysModules) = false ∧
    ∃ xs, KT H kvs xs ∧ h.DictOfH (tupleKind (mixKind P w)) a xs := dt_rd ok (.inl e)
end
noncomputable def DGet (H : Hp) (a : Addr) (y : V) (r : Option V) : Prop :=
  (∃ kvs k, Rd H a (.dK kvs) ∧ y = kV k ∧ r = valV kvs k) ∨ ∃ kvs k b, Rd H a (.dT kvs) ∧ y = .ref b ∧ H b = some (.tup (k.map kV)) ∧ r = valV kvs k
noncomputable def DPut (H : Hp) (a : Addr) (y v : V) (H' : Hp) : Prop :=
  (∃ kvs k, H a = some (.dK kvs) ∧ y = kV k ∧ kvs.length < sizeLine ∧ H' = upd H a (.dK (putK kvs k v))) ∨
  ∃ kvs k b, H a = some (.dT kvs) ∧ y = .ref b ∧ H b = some (.tup (k.map kV)) ∧ kvs.length < sizeLine ∧ H' = upd H a (.dT (putK kvs k v))
theorem DGet.k {H : Hp} {a : Addr} {kvs : List (Key × V)} {k : Key} (e : H a = some (.dK kvs)) : DGet H a (kV k) (valV kvs k) := .inl ⟨kvs, k, .inl e, rfl, rfl⟩
theorem DGet.t {H : Hp} {a b : Addr} {kvs : List (List Key × V)} {k : List Key} (e : H a = some (.dT kvs)) (eb : H b = some (.tup (k.map kV))) : DGet H a (.ref b) (valV kvs k) := .inr ⟨kvs, k, b, .inl e, rfl, eb, rfl⟩
theorem DPut.k {H : Hp} {a : Addr} {kvs : List (Key × V)} {k : Key} {v : V} (e : H a = some (.dK kvs)) (hl : kvs.length < sizeLine) : DPut H a (kV k) v (upd H a (.dK (putK kvs k v))) := .inl ⟨kvs, k, e, rfl, hl, rfl⟩
theorem DPut.t {H : Hp} {a b : Addr} {kvs : List (List Key × V)} {k : List Key} {v : V} (e : H a = some (.dT kvs)) (eb : H b = some (.tup (k.map kV))) (hl : kvs.length < sizeLine) :
    DPut H a (.ref b) v (upd H a (.dT (putK kvs k v))) := .inr ⟨kvs, k, b, e, rfl, eb, hl, rfl⟩
section
variable {X : Cx} {pins : List (Addr × Obj)} {σ : St} {H : Hp} {s : Shared} {a : Addr} {y v : V} {u r : Value} {o : Option V} {A : Around} {E : Value → Shared → Prop}
theorem Inv.big (I : Inv X pins σ H s) : sysModules < s.heap.objs.size := by
  have h : mainGlobals < s.heap.objs.size := (I.mod.glob.keeps I.bk).lt
  exact Nat.lt_trans (by decide) h
theorem d_getItem {Q : Value → Shared → Prop} (hu : A.units + 1 < cLine) (I : Inv X pins σ H s) (g : DGet H a y (some v)) (ry : RelV y u) (h : ∀ w' s', Inv X pins σ H s' → RelV v w' → Q w' s') :
    wpAny (model X.prog X.w) A (getItem (.ref a) u) Q E s := by
  rcases g with ⟨kvs, k, e, ey, l⟩ | ⟨kvs, k, b, e, ey, eb, l⟩
  · subst ey
    obtain ⟨z, hd, vs, rel, dd⟩ := dk_rd I.hok e
    obtain ⟨w', hw, rw'⟩ := RelO.some_of (v := v) (o := valueAt vs k) (by rw [l]; exact rel.val k)
    exact wpAny_getItem_of (kV_is ry) dd.mapOf hw (h w' _ (I.tok _) rw')
  · subst ey
    cases (show u = Value.ref b from ry)
    obtain ⟨z, hd, xs, rel, dd⟩ := dt_rd I.hok e
    obtain ⟨w', hw, rw'⟩ := RelO.some_of (v := v) (o := (atKey xs k).map (·.2)) (by rw [l]; exact rel.val k)
    obtain ⟨p, hp, hp2⟩ := Option.map_eq_some_iff.mp hw
    refine wpAny_getItem_heap (tupleKind_room_in1 hu) (key_of I.hok eb) dd hp ?_
    rw [hp2]
    exact h w' _ (I.tok _) rw'
theorem d_write {h' : Heap} {t' : Nat} {ob : HO} (I : Inv X pins σ H s) (mu : Mut (H a)) (hs : Heap.SameBut a s.heap h') (he : ∃ q, h'.get? a = some q) (new : ObjOk X.prog X.w (upd H a ob) h' a ob) :
    Inv X pins σ (upd H a ob) { s with heap := h', toks := t' } :=
  I.write (x := a) (e := a) mu (.inl rfl) (fun b q hb z => (hs.2 b hb).trans z) he new
theorem dk_new {P : Program} {w : World} {H' : Hp} {h' : Heap} {kvs : List (Key × V)} {vs : List (Key × Value)} (z : kvs.length ≤ sizeLine) (hd : (a == sysModules) = false) (rel : KV kvs vs) (dd : h'.DictOf (mixKind P w) a vs) :
    ObjOk P w H' h' a (.dK kvs) := ⟨z, hd, vs, rel, dd⟩
theorem d_setItem {H' : Hp} {Q : Unit → Shared → Prop} (hu : A.units + 1 < cLine) (I : Inv X pins σ H s) (g : DPut H a y v H') (ry : RelV y u) (rv : RelV v r) (h : ∀ s', Inv X pins σ H' s' → Q () s') :
    wpAny (model X.prog X.w) A (setItem (.ref a) u r) Q E s := by
  rcases g with ⟨kvs, k, e, ey, l, eH⟩ | ⟨kvs, k, b, e, ey, eb, l, eH⟩
  · subst ey eH
    obtain ⟨z, hd, vs, rel, dd⟩ := dk_of I.hok e
    have hz : vs.length ≤ sizeLine := by rw [← rel.length]; exact z
    have hl : (putK kvs k v).length ≤ sizeLine := by have := length_putK kvs k v; omega
    refine wpAny_setItem_pairs (hsz := hz) (kV_is ry) dd fun h' dd' hs => h _ ?_
    have he : ∃ q, h'.get? a = some q := let ⟨q, _, _, hq, _⟩ := dd'; ⟨q, hq⟩
    exact d_write I (by rw [e]; exact True.intro) hs he (dk_new hl hd (rel.put k rv) dd')
  · subst ey eH
    cases (show u = Value.ref b from ry)
    obtain ⟨z, hd, xs, rel, dd⟩ := dt_of I.hok e
    have hz : xs.length ≤ sizeLine := by rw [← Paired.length rel]; exact z
    have hl : (putK kvs k v).length ≤ sizeLine := by have := length_putK kvs k v; omega
    refine wpAny_setItem_heap (hsz := hz) (tupleKind_room_in1 hu) (key_of I.hok eb) dd fun h' dd' hs => h _ ?_
    obtain ⟨q, es, ep, hq, h2, h3, h4, _, h5⟩ := dd'
    refine d_write I (by rw [e]; exact True.intro) hs ⟨q, hq⟩ ⟨hl, hd, _, (rel.put k eb rv).keeps fun c ys ec => ?_, q, es, ep, hq, h2, h3, h4, h5⟩
    rw [upd_ne (ne_of ec e (fun z => nomatch z))]
    exact ec
end
section
variable {X : Cx} {pins : List (Addr × Obj)} {σ : St} {H : Hp} {s : Shared} {a : Addr} {kvs : List (Key × V)} {k : Key} {u : Value} {A : Around} {E : Value → Shared → Prop}
end
noncomputable def NoSl (i : Expr) : Prop := ∀ ov iv, subscripted i false ov iv = operate [ov, iv] (getItem ov iv)
theorem subD_of {prog : Program} {w : World} {A : Around} {E : Value → Shared → Prop} {s : Shared} {env : Env} {value slice : Expr} {pos : Pos} {T id : String} {Q : Value → Shared → Prop}
    (hl : typeLookup (.type T) "__getitem__" = pure (some (.builtin id))) (hs : NoSl slice)
    (h : wpAny (model prog w) A (eval value env) (fun o s₁ => wpAny (model prog w) A (eval slice env) (fun i s₂ => s₂.TypeIs o T ∧ wpAny (model prog w) A (getItem o i) Q E s₂) E s₁) E s) :
    wpAny (model prog w) A (eval (.Subscript value slice pos) env) Q E s := by
  refine Subscript_ (wpAny_mono h (fun o s₁ h₁ => wpAny_mono h₁ (fun i s₂ h₂ => ?_) fun _ _ x => x) fun _ _ x => x)
  obtain ⟨hT, h₂⟩ := h₂
  unfold subscriptTail
  refine wpAny_bind ?_
  rw [getitemInPython_of_ne hT.not_modules]
  refine wpAny_bind (wpAny_specialOf hT hl ?_)
  have fin : wpAny (model prog w) A (subscripted slice false o i) (fun r s₃ => wpAny (model prog w) A (letTemporaryGo value o r >>= fun _ => pure r) Q E s₃) E s₂ := by
    rw [hs o i]
    exact wpAny_operating (wpAny_mono h₂ (fun r s₃ h₃ => wpAny_bind (wpAny_letTemporaryGo (wpAny_pure h₃))) fun _ _ x => x)
  first
    | exact wpAny_pure (wpAny_bind fin)
    | exact wpAny_bind (wpAny_pure (wpAny_bind fin))
    | exact wpAny_bind fin
theorem dict_typeIs {X : Cx} {pins : List (Addr × Obj)} {σ : St} {H : Hp} {s : Shared} {a : Addr} {y : V} {o : Option V} (I : Inv X pins σ H s) (g : DGet H a y o) : s.TypeIs (.ref a) "dict" := by
  rcases g with ⟨kvs, k, e, _, _⟩ | ⟨kvs, k, b, e, _, _, _⟩
  · obtain ⟨_, _, vs, _, dd⟩ := dk_rd I.hok e
    exact dd.typeIs
  · obtain ⟨_, _, xs, _, dd⟩ := dt_rd I.hok e
    exact dd.typeIs
noncomputable def tDGet (td ty : TE) : TE := fun σ H Q => td σ H fun x H1 => ty σ H1 fun y H2 => ∃ a v, x = .ref a ∧ DGet H2 a y (some v) ∧ Q v H2
noncomputable def sDPut (td ty tv : TE) : TS := fun D σ H => tv σ H fun v H1 => td σ H1 fun x H2 => ty σ H2 fun y H3 => ∃ a H4, x = .ref a ∧ DPut H3 a y v H4 ∧ D.nx σ H4
section
variable {X : Cx} {o i e value : Expr} {pos pos' tpos : Pos} {td ty tv : TE}
theorem pe_dget (hu : X.A.units + 1 < cLine) (ho : PE X o td) (hi : PE X i ty) (hs : NoSl i) : PE X (.Subscript o i pos) (tDGet td ty) := by
  intro pins s σ H Q I h
  refine subD_of PySem.F.slot_dict_getitem.lookup hs (thn (ho pins s σ H _ I h) fun u s1 ⟨x, H1, I1, rx, q1⟩ => thn (hi pins s1 σ H1 _ I1 q1) fun iv s2 ⟨y, H2, I2, ry, a, v, ex, g, q2⟩ => ?_)
  subst ex
  obtain rfl : u = Value.ref a := rx
  exact ⟨dict_typeIs I2 g, d_getItem hu I2 g ry fun w' s3 I3 rw' => ⟨v, H2, I3, rw', q2⟩⟩
theorem ps_dput (hu : X.A.units + 1 < cLine) (ho : PE X o td) (hi : PE X i ty) (hv : PE X value tv) (hs : swapsWith value (some (.Subscript o i pos')) pos.line X.env = pure false) :
    PS X (.Assign [.Subscript o i pos'] value pos) (sDPut td ty tv) := by
  intro pins s σ H D I h
  refine wpAny_Assign_Subscript (thn (hv pins s σ H _ I h) fun r s1 ⟨v, H1, I1, rv, q1⟩ => thn (ho pins s1 σ H1 _ I1 q1) fun u s2 ⟨x, H2, I2, rx, q2⟩ => thn (hi pins s2 σ H2 _ I2 q2) fun iv s3 ⟨y, H3, I3, ry, a, H4, ex, g, q3⟩ => ?_) hs
  subst ex
  obtain rfl : u = Value.ref a := rx
  exact d_setItem hu I3 g ry rv fun s4 I4 => ⟨σ, H4, I4, q3⟩
end
theorem dk_empty {P : Program} {w : World} {H : Hp} (h : Heap) (hb : sysModules < h.objs.size) : ObjOk P w H (h.push { cls := .type "dict", data := .dict #[] }) h.objs.size (.dK []) :=
  ⟨Nat.zero_le _, beq_eq_false_iff_ne.mpr (Ne.symm (Nat.ne_of_lt hb)), [], .nil, Heap.DictOf.new h⟩
noncomputable def tDNewK : TE := fun _ H Q => ∀ p, H p = none → Q (.ref p) (upd H p (.dK []))
section
variable {X : Cx} {pos : Pos}
theorem pe_dnewK : PE X (.Dict [] [] pos) tDNewK := fun pins s σ H Q I h =>
  wpAny_Dict_empty ⟨.ref s.heap.objs.size, _, I.laid (a := s.heap.objs.size) (o := .dK []) (t' := s.toks) (fun _ _ q => Heap.get?_push_of_some _ q) (Nat.le_refl _) (dk_empty s.heap I.big), rfl, h _ (I.hok.fresh (Nat.le_refl _))⟩
end
section
variable {X : Cx} {pins : List (Addr × Obj)} {σ : St} {H : Hp} {s : Shared} {a : Addr} {y d : V} {u r : Value} {o : Option V} {A : Around} {E : Value → Shared → Prop}
end
section
variable {X : Cx} {o e f : Expr} {apos cpos : Pos} {td ty tx : TE}
end
section
variable {X : Cx} {pins : List (Addr × Obj)} {σ : St} {H : Hp} {s : Shared} {a : Addr} {kvs : List (Key × V)} {A : Around} {E : Value → Shared → Prop}
end
section
variable {X : Cx} {pins : List (Addr × Obj)} {σ : St} {H : Hp} {s : Shared} {a : Addr} {y : V} {u : Value} {A : Around} {E : Value → Shared → Prop}
end
end L2
namespace L2
open PySem PySem.Spec PyProof.Rows
section
variable {X : Cx}
end
section
variable {κ : Type} [DecidableEq κ]
end
end L2
end
section
set_option Elab.async false
set_option linter.all false
set_option maxRecDepth 100000
set_option maxHeartbeats 3999999
namespace L3
open PySem L2
noncomputable def Scr (K : PySem.W.Frag) (H : Hp) (a : Addr) (ns : List Int) : Prop := (∃ o, H a = some (.frz o (.lst (ns.map V.int)))) ∨ SqL K (fun _ => none) a (ns.map V.int)
noncomputable def Rw (S : Addr → Prop) (H : Hp) (xs : List (List Int)) (p : Addr) : Prop := ∃ as : List Addr, H p = some (.lst (as.map V.ref)) ∧ as.Nodup ∧ (∀ a ∈ as, S a) ∧ as.map H = xs.map fun x => some (.lst (x.map V.int))
mutual
noncomputable def Dn (K : PySem.W.Frag) (S : Addr → Prop) (H : Hp) : D → V → Prop
  | .non, v => v = .non
  | .bl b, v => v = .bl b
  | .int i, v => v = .int i
  | .str x, v => v = .str x
  | .tup ds, v => ∃ a xs, v = .ref a ∧ H a = some (.tup xs) ∧ Dns K S H ds xs
  | .lst ds, v => ∃ a xs, v = .ref a ∧ H a = some (.lst xs) ∧ S a ∧ Dns K S H ds xs
  | .scr ns, v => ∃ a, v = .ref a ∧ Scr K H a ns
  | .dic ks ds, v => ∃ a xs, v = .ref a ∧ H a = some (.dK (ks.zip xs)) ∧ S a ∧ ks.length = xs.length ∧ Dns K S H ds xs
  | .dicT q ks ds, v => ∃ a o kvs, v = .ref a ∧ H a = some (.dX o kvs) ∧ S a ∧ (kvs.map (·.1) = ks ∧ q a o) ∧ Dns K S H ds (kvs.map (·.2.2))
  | .exc _ a, v => v = .ref a
  | .rws xs, v => ∃ a, v = .ref a ∧ S a ∧ Rw S H xs a
noncomputable def Dns (K : PySem.W.Frag) (S : Addr → Prop) (H : Hp) : List D → List V → Prop
  | [], xs => xs = []
  | d :: ds, xs => ∃ v r, xs = v :: r ∧ Dn K S H d v ∧ Dns K S H ds r
end
structure Fits (K : PySem.W.Frag) (S S' : Addr → Prop) (H H' : Hp) : Prop where
  t : ∀ a xs, H a = some (.tup xs) → H' a = some (.tup xs)
  s : ∀ a ns, Scr K H a ns → Scr K H' a ns
  l : ∀ a xs, H a = some (.lst xs) → S a → H' a = some (.lst xs) ∧ S' a
  d : ∀ a xs, H a = some (.dK xs) → S a → H' a = some (.dK xs) ∧ S' a
  e : ∀ a o xs, H a = some (.dX o xs) → S a → H' a = some (.dX o xs) ∧ S' a
section
variable {K : PySem.W.Frag} {S S' : Addr → Prop} {H H' : Hp}
theorem Rw.fits (f : Fits K S S' H H') {xs : List (List Int)} {p : Addr} (hp : ∀ ys, H p = some (.lst ys) → H' p = some (.lst ys)) (h : Rw S H xs p) : Rw S' H' xs p := by
  obtain ⟨as, h1, h2, h3, h4⟩ := h
  have hl : as.length = xs.length := by have := congrArg List.length h4; simpa using this
  have at1 : ∀ i (hi : i < as.length), H as[i] = some (.lst ((xs[i]'(hl ▸ hi)).map V.int)) := fun i hi => by
    have := congrArg (fun l => l[i]?) h4
    simpa [hi, hl ▸ hi] using this
  refine ⟨as, hp _ h1, h2, fun a ha => ?_, List.ext_getElem (by simpa using hl) fun i hi hi2 => ?_⟩
  · obtain ⟨i, hi, rfl⟩ := List.getElem_of_mem ha
    exact (f.l _ _ (at1 i hi) (h3 _ ha)).2
  · rw [List.length_map] at hi
    rw [List.getElem_map, List.getElem_map]
    exact (f.l _ _ (at1 i hi) (h3 _ (List.getElem_mem hi))).1
mutual
theorem Dn.fits (f : Fits K S S' H H') : ∀ (d : D) (v : V), Dn K S H d v → Dn K S' H' d v
  | .non, v, h => by simpa only [Dn] using h
  | .bl b, v, h => by simpa only [Dn] using h
  | .int i, v, h => by simpa only [Dn] using h
  | .str x, v, h => by simpa only [Dn] using h
  | .tup ds, v, h => by
    simp only [Dn] at h ⊢
    obtain ⟨a, xs, e, q, r⟩ := h
    exact ⟨a, xs, e, f.t a xs q, Dns.fits f ds xs r⟩
  | .lst ds, v, h => by
    simp only [Dn] at h ⊢
    obtain ⟨a, xs, e, q, s, r⟩ := h
    obtain ⟨q', s'⟩ := f.l a xs q s
    exact ⟨a, xs, e, q', s', Dns.fits f ds xs r⟩
  | .scr ns, v, h => by
    simp only [Dn] at h ⊢
    obtain ⟨a, e, q⟩ := h
    exact ⟨a, e, f.s a ns q⟩
  | .dic ks ds, v, h => by
    simp only [Dn] at h ⊢
    obtain ⟨a, xs, e, q, s, l, r⟩ := h
    obtain ⟨q', s'⟩ := f.d a _ q s
    exact ⟨a, xs, e, q', s', l, Dns.fits f ds xs r⟩
  | .dicT _ ks ds, v, h => by
    simp only [Dn] at h ⊢
    obtain ⟨a, o, kvs, e, q, s, l, r⟩ := h
    obtain ⟨q', s'⟩ := f.e a _ _ q s
    exact ⟨a, o, kvs, e, q', s', l, Dns.fits f ds _ r⟩
  | .exc _ _, v, h => by simpa only [Dn] using h
  | .rws xs, v, h => by
    simp only [Dn] at h ⊢
    obtain ⟨a, e, s, r⟩ := h
    obtain ⟨as, h1, h2⟩ := r
    exact ⟨a, e, (f.l a _ h1 s).2, Rw.fits f (fun ys e1 => (f.l a ys e1 s).1) ⟨as, h1, h2⟩⟩
theorem Dns.fits (f : Fits K S S' H H') : ∀ (ds : List D) (xs : List V), Dns K S H ds xs → Dns K S' H' ds xs
  | [], xs, h => by simpa only [Dns] using h
  | d :: ds, xs, h => by
    simp only [Dns] at h ⊢
    obtain ⟨v, r, e, h1, h2⟩ := h
    exact ⟨v, r, e, Dn.fits f d v h1, Dns.fits f ds r h2⟩
end
mutual
theorem Dn.immA : ∀ (d : D) (v : V), d.imm = true → Dn K S H d v → Dn K S' H d v
  | .non, v, _, h => by simpa only [Dn] using h
  | .bl b, v, _, h => by simpa only [Dn] using h
  | .int i, v, _, h => by simpa only [Dn] using h
  | .str x, v, _, h => by simpa only [Dn] using h
  | .tup ds, v, hi, h => by
    simp only [Dn] at h ⊢
    obtain ⟨a, xs, e, q, r⟩ := h
    exact ⟨a, xs, e, q, Dns.immA ds xs (by simpa only [D.imm] using hi) r⟩
  | .lst _, v, hi, h => by simp only [D.imm] at hi; cases hi
  | .scr ns, v, _, h => by simpa only [Dn] using h
  | .dic _ _, v, hi, h => by simp only [D.imm] at hi; cases hi
  | .dicT _ _ _, v, hi, h => by simp only [D.imm] at hi; cases hi
  | .exc _ _, v, _, h => by simpa only [Dn] using h
  | .rws _, v, hi, h => by simp only [D.imm] at hi; cases hi
theorem Dns.immA : ∀ (ds : List D) (xs : List V), imms ds = true → Dns K S H ds xs → Dns K S' H ds xs
  | [], xs, _, h => by simpa only [Dns] using h
  | d :: ds, xs, hi, h => by
    simp only [imms, Bool.and_eq_true] at hi
    simp only [Dns] at h ⊢
    obtain ⟨v, r, e, h1, h2⟩ := h
    exact ⟨v, r, e, Dn.immA d v hi.1 h1, Dns.immA ds r hi.2 h2⟩
end
theorem Dn.imm {d : D} (hi : d.imm = true) {v : V} (h : Dn K S H d v) : Dn K S' H d v := Dn.immA d v hi h
theorem Dns.imm {ds : List D} (hi : imms ds = true) {xs : List V} (h : Dns K S H ds xs) : Dns K S' H ds xs := Dns.immA ds xs hi h
theorem SqL.some {a : Addr} {xs : List V} (h : SqL K (fun _ => none) a xs) : SqL K H a xs := by
  rcases h with (h | ⟨o, h⟩) | h
  · cases h
  · cases h
  · exact .inr h
theorem Scr.sq {a : Addr} {ns : List Int} (h : Scr K H a ns) : SqL K H a (ns.map V.int) := by
  rcases h with ⟨o, h⟩ | h
  · exact .inl (.inr ⟨o, h⟩)
  · exact SqL.some h
noncomputable def Wr (H : Hp) (p : Addr) : Prop := (∃ xs, H p = some (.lst xs)) ∨ (∃ xs, H p = some (.dK xs)) ∨ ∃ o xs, H p = some (.dX o xs)
theorem Wr.tup {p a : Addr} {o : HO} {xs : List V} (w : Wr H p) (h : H a = some (.tup xs)) : upd H p o a = some (.tup xs) := by
  rw [upd_ne]
  · exact h
  · intro e
    subst e
    rcases w with ⟨ys, w⟩ | ⟨ys, w⟩ | ⟨_, ys, w⟩ <;> rw [h] at w <;> cases w
theorem Wr.scr {p a : Addr} {o : HO} {ns : List Int} (w : Wr H p) (h : Scr K H a ns) : Scr K (upd H p o) a ns := by
  rcases h with ⟨ob, h⟩ | h
  · refine .inl ⟨ob, ?_⟩
    rw [upd_ne]
    · exact h
    · intro e
      subst e
      rcases w with ⟨ys, w⟩ | ⟨ys, w⟩ | ⟨_, ys, w⟩ <;> rw [h] at w <;> cases w
  · exact .inr h
theorem Fits.same (e : Same H H') : Fits K S S H H' :=
  ⟨fun a xs h => e _ _ h, fun a ns h => h.elim (fun ⟨o, h⟩ => .inl ⟨o, e _ _ h⟩) .inr, fun a xs h s => ⟨e _ _ h, s⟩, fun a xs h s => ⟨e _ _ h, s⟩, fun a _ xs h s => ⟨e _ _ h, s⟩⟩
theorem Fits.mono (m : ∀ a, S a → S' a) : Fits K S S' H H :=
  ⟨fun _ _ h => h, fun _ _ h => h, fun a _ h s => ⟨h, m a s⟩, fun a _ h s => ⟨h, m a s⟩, fun a _ _ h s => ⟨h, m a s⟩⟩
theorem Fits.fresh {p : Addr} (hp : H p = none) : Fits K S (fun a => S a ∧ a ≠ p) H H :=
  ⟨fun _ _ h => h, fun _ _ h => h, fun a _ h s => ⟨h, s, ne_of_none h hp⟩, fun a _ h s => ⟨h, s, ne_of_none h hp⟩, fun a _ _ h s => ⟨h, s, ne_of_none h hp⟩⟩
theorem Fits.upd {p : Addr} {o : HO} (w : Wr H p) (hs : ¬ S p) : Fits K S S H (upd H p o) := by
  have ne : ∀ a, S a → a ≠ p := fun a s e => hs (e ▸ s)
  exact ⟨fun a xs h => w.tup h, fun a ns h => w.scr h, fun a xs h s => ⟨by rw [upd_ne (ne a s)]; exact h, s⟩, fun a xs h s => ⟨by rw [upd_ne (ne a s)]; exact h, s⟩, fun a _ xs h s => ⟨by rw [upd_ne (ne a s)]; exact h, s⟩⟩
theorem Fits.trans {S'' : Addr → Prop} {H'' : Hp} (a : Fits K S S' H H') (b : Fits K S' S'' H' H'') : Fits K S S'' H H'' :=
  ⟨fun x xs h => b.t x xs (a.t x xs h), fun x ns h => b.s x ns (a.s x ns h), fun x xs h s => let ⟨h1, s1⟩ := a.l x xs h s; b.l x xs h1 s1, fun x xs h s => let ⟨h1, s1⟩ := a.d x xs h s; b.d x xs h1 s1, fun x o xs h s => let ⟨h1, s1⟩ := a.e x o xs h s; b.e x o xs h1 s1⟩
theorem same_upd {p : Addr} {o : HO} (hp : H p = none) : Same H (upd H p o) := fun b u h => by rw [upd_ne (ne_of_none h hp)]; exact h
theorem Dns.len : ∀ {ds : List D} {xs : List V}, Dns K S H ds xs → ds.length = xs.length
  | [], xs, h => by simp only [Dns] at h; subst h; rfl
  | d :: ds, xs, h => by
    simp only [Dns] at h
    obtain ⟨v, r, e, _, h2⟩ := h
    subst e
    simp [Dns.len h2]
theorem Dns.get : ∀ {ds : List D} {xs : List V} {i : Nat} {d : D}, Dns K S H ds xs → ds[i]? = some d → ∃ v, xs[i]? = some v ∧ Dn K S H d v
  | [], xs, i, d, h, e => by simp at e
  | d :: ds, xs, i, d', h, e => by
    simp only [Dns] at h
    obtain ⟨v, r, e1, h1, h2⟩ := h
    subst e1
    cases i with
    | zero => simp at e; subst e; exact ⟨v, by simp, h1⟩
    | succ i =>
      obtain ⟨u, e2, q⟩ := Dns.get (i := i) (d := d') h2 (by simpa using e)
      exact ⟨u, by simpa using e2, q⟩
theorem Dns.nil : Dns K S H [] [] := by simp only [Dns]
theorem Dns.cons {d : D} {ds : List D} {v : V} {xs : List V} (h : Dn K S H d v) (t : Dns K S H ds xs) : Dns K S H (d :: ds) (v :: xs) := by
  simp only [Dns]; exact ⟨v, xs, rfl, h, t⟩
theorem Dns.uncons {d : D} {ds : List D} {xs : List V} (h : Dns K S H (d :: ds) xs) : ∃ v r, xs = v :: r ∧ Dn K S H d v ∧ Dns K S H ds r := by
  simpa only [Dns] using h
theorem Dns.append : ∀ {ds es : List D} {xs ys : List V}, Dns K S H ds xs → Dns K S H es ys → Dns K S H (ds ++ es) (xs ++ ys)
  | [], es, xs, ys, h, g => by simp only [Dns] at h; subst h; exact g
  | d :: ds, es, xs, ys, h, g => by
    obtain ⟨v, r, e, h1, h2⟩ := h.uncons
    subst e
    exact Dns.cons h1 (Dns.append h2 g)
theorem Dns.one {d : D} {v : V} (h : Dn K S H d v) : Dns K S H [d] [v] := Dns.cons h Dns.nil
theorem Dns.take : ∀ {ds : List D} {xs : List V} (n : Nat), Dns K S H ds xs → Dns K S H (ds.take n) (xs.take n)
  | _, _, 0, _ => by simp [Dns.nil]
  | [], xs, n + 1, h => by simp only [Dns] at h; subst h; simp [Dns.nil]
  | d :: ds, xs, n + 1, h => by
    obtain ⟨v, r, e, h1, h2⟩ := h.uncons
    subst e
    simpa using Dns.cons h1 (Dns.take n h2)
theorem Dns.drop : ∀ {ds : List D} {xs : List V} (n : Nat), Dns K S H ds xs → Dns K S H (ds.drop n) (xs.drop n)
  | _, _, 0, h => by simpa using h
  | [], xs, n + 1, h => by simp only [Dns] at h; subst h; simp [Dns.nil]
  | d :: ds, xs, n + 1, h => by
    obtain ⟨v, r, e, h1, h2⟩ := h.uncons
    subst e
    simpa using Dns.drop n h2
theorem Dns.set : ∀ {ds : List D} {xs : List V} {d : D} {v : V} (n : Nat), Dn K S H d v → Dns K S H ds xs → Dns K S H (ds.set n d) (xs.set n v)
  | [], xs, d, v, n, h, g => by simp only [Dns] at g; subst g; simp [Dns.nil]
  | d :: ds, xs, d', v', n, h, g => by
    obtain ⟨v, r, e, h1, h2⟩ := g.uncons
    subst e
    cases n with
    | zero => exact Dns.cons h h2
    | succ n => exact Dns.cons h1 (Dns.set n h h2)
theorem Dns.erase : ∀ {ds : List D} {xs : List V} (n : Nat), Dns K S H ds xs → Dns K S H (ds.eraseIdx n) (xs.eraseIdx n)
  | [], xs, n, g => by simp only [Dns] at g; subst g; simp [Dns.nil]
  | d :: ds, xs, n, g => by
    obtain ⟨v, r, e, h1, h2⟩ := g.uncons
    subst e
    cases n with
    | zero => exact h2
    | succ n => exact Dns.cons h1 (Dns.erase n h2)
theorem Dns.ints : ∀ {ns : List Int} {xs : List V}, Dns K S H (ns.map D.int) xs ↔ xs = ns.map V.int
  | [], xs => by simp [Dns]
  | n :: ns, xs => by
    rw [List.map_cons, List.map_cons]
    constructor
    · intro h
      obtain ⟨v, r, e, h1, h2⟩ := h.uncons
      simp only [Dn] at h1
      rw [e, h1, Dns.ints.mp h2]
    · intro e
      rw [e]
      exact Dns.cons (by simp only [Dn]) (Dns.ints.mpr rfl)
theorem imms_ints : ∀ ns : List Int, imms (ns.map D.int) = true
  | [] => rfl
  | n :: ns => by rw [List.map_cons, imms, imms_ints ns]; rfl
end
end L3
end
section
set_option Elab.async false
set_option linter.all false
set_option maxRecDepth 100000
set_option maxHeartbeats 3999999
namespace L3
open PySem L2
noncomputable def Sl (K : PySem.W.Frag) (S : Addr → Prop) (H : Hp) (ρ : DEnv) (σ : St) : Prop := ∀ (i : Nat) (d : D), ρ[i]? = some (some d) → ∃ v, σ[i]? = some (some v) ∧ Dn K S H d v
theorem Sl.fits {K : PySem.W.Frag} {S S' : Addr → Prop} {H H' : Hp} {ρ : DEnv} {σ : St} (f : Fits K S S' H H') (h : Sl K S H ρ σ) : Sl K S' H' ρ σ := fun i d e =>
  let ⟨v, e1, q⟩ := h i d e; ⟨v, e1, Dn.fits f d v q⟩
noncomputable def OwnD (K : PySem.W.Frag) (S : Addr → Prop) (H : Hp) (d : D) (p : Addr) : Prop :=
  match d with
  | .lst ds => ∃ xs, H p = some (.lst xs) ∧ Dns K S H ds xs
  | .dic ks ds => ∃ xs, H p = some (.dK (ks.zip xs)) ∧ ks.length = xs.length ∧ Dns K S H ds xs
  | .dicT q ks ds => ∃ o kvs, H p = some (.dX o kvs) ∧ (kvs.map (·.1) = ks ∧ q p o) ∧ Dns K S H ds (kvs.map (·.2.2))
  | .rws xs => Rw S H xs p
  | _ => False
noncomputable def SO (S : Addr → Prop) (w : Nat → Addr) (ρ : SEnv) : Addr → Prop := fun a => S a ∧ ∀ (i : Nat) (d : D), ρ[i]? = some (Sv.ow d) → a ≠ w i
structure ST (K : PySem.W.Frag) (H₀ : Hp) (S : Addr → Prop) (w : Nat → Addr) (σ : St) (H : Hp) (ρ : SEnv) (G : List (D × V)) : Prop where
  fc : ∀ a, H₀ a = none → S a
  sm : Same H₀ H
  own : ∀ (i : Nat) (d : D), ρ[i]? = some (Sv.ow d) → σ[i]? = some (some (.ref (w i))) ∧ H₀ (w i) = none ∧ OwnD K (SO S w ρ) H d (w i)
  inj : ∀ (i j : Nat) (d e : D), ρ[i]? = some (Sv.ow d) → ρ[j]? = some (Sv.ow e) → w i = w j → i = j
  ro : ∀ (i : Nat) (d : D), ρ[i]? = some (Sv.ro d) → ∃ v, σ[i]? = some (some v) ∧ Dn K (SO S w ρ) H d v
  gh : ∀ g ∈ G, Dn K (SO S w ρ) H g.1 g.2
  rw : ∀ (i : Nat) (xs : List (List Int)), ρ[i]? = some (Sv.ow (.rws xs)) → ∀ ys, H (w i) = some (.lst ys) → ∀ a, V.ref a ∈ ys → H₀ a = none
section
variable {K : PySem.W.Frag} {H₀ H H' : Hp} {S S' : Addr → Prop} {w : Nat → Addr} {σ : St} {ρ : SEnv} {G : List (D × V)}
theorem OwnD.wr {d : D} {p : Addr} (h : OwnD K S H d p) : Wr H p := by
  cases d with
  | lst ds => obtain ⟨xs, e, _⟩ := h; exact .inl ⟨_, e⟩
  | dic ks ds => obtain ⟨xs, e, _⟩ := h; exact .inr (.inl ⟨_, e⟩)
  | dicT q0 ks ds => obtain ⟨o, kvs, e, _⟩ := h; exact .inr (.inr ⟨_, _, e⟩)
  | rws xs => obtain ⟨_, e, _⟩ := h; exact .inl ⟨_, e⟩
  | _ => exact False.elim h
theorem OwnD.dn {d : D} {p : Addr} (h : OwnD K S H d p) (hs : S' p) (m : ∀ a, S a → S' a) : Dn K S' H d (.ref p) := by
  cases d with
  | lst ds => obtain ⟨xs, e, q⟩ := h; simp only [Dn]; exact ⟨p, xs, rfl, e, hs, Dns.fits (.mono m) ds xs q⟩
  | dic ks ds => obtain ⟨xs, e, l, q⟩ := h; simp only [Dn]; exact ⟨p, xs, rfl, e, hs, l, Dns.fits (.mono m) ds xs q⟩
  | dicT q0 ks ds => obtain ⟨o, kvs, e, l, q⟩ := h; simp only [Dn]; exact ⟨p, o, kvs, rfl, e, hs, l, Dns.fits (.mono m) ds _ q⟩
  | rws xs => simp only [Dn]; exact ⟨p, rfl, hs, Rw.fits (.mono (K := K) m) (fun _ e => e) h⟩
  | _ => exact False.elim h
theorem OwnD.fits {d : D} {p : Addr} (f : Fits K S S' H H') (hp : ∀ o, H p = some o → H' p = some o) (h : OwnD K S H d p) : OwnD K S' H' d p := by
  cases d with
  | lst ds => obtain ⟨xs, e, q⟩ := h; exact ⟨xs, hp _ e, Dns.fits f ds xs q⟩
  | dic ks ds => obtain ⟨xs, e, l, q⟩ := h; exact ⟨xs, hp _ e, l, Dns.fits f ds xs q⟩
  | dicT q0 ks ds => obtain ⟨o, kvs, e, l, q⟩ := h; exact ⟨o, kvs, hp _ e, l, Dns.fits f ds _ q⟩
  | rws xs => exact Rw.fits f (fun _ e => hp _ e) h
  | _ => exact False.elim h
theorem ST.rwN (h : ST K H₀ S w σ H ρ G) {i : Nat} {xs : List (List Int)} (q : ρ[i]? = some (Sv.ow (.rws xs))) (hp : ∀ o, H (w i) = some o → H' (w i) = some o) : ∀ ys, H' (w i) = some (.lst ys) → ∀ a, V.ref a ∈ ys → H₀ a = none := fun ys hy => by
  obtain ⟨as, e, _⟩ := (h.own i _ q).2.2
  rw [hp _ e] at hy
  cases hy
  exact h.rw i xs q _ e
theorem ST.fcH (h : ST K H₀ S w σ H ρ G) : ∀ a, H a = none → S a := fun a e => h.fc a (h.sm.free e)
theorem ST.fcO (h : ST K H₀ S w σ H ρ G) : ∀ a, H a = none → SO S w ρ a := fun a e => ⟨h.fcH a e, fun i d q z => by
  have wr := (h.own i d q).2.2.wr
  subst z
  rcases wr with ⟨xs, k⟩ | ⟨xs, k⟩ | ⟨_, xs, k⟩ <;> rw [e] at k <;> cases k⟩
theorem getElem?_vAll {i : Nat} {d : D} (h : (vAll ρ)[i]? = some (some d)) : ρ[i]? = some (Sv.ro d) ∨ ρ[i]? = some (Sv.ow d) := by
  unfold vAll at h
  rw [List.getElem?_map] at h
  cases e : ρ[i]? with
  | none => rw [e] at h; cases h
  | some s =>
    rw [e] at h
    cases s with
    | no => cases h
    | ro d' => cases h; exact .inl rfl
    | ow d' => cases h; exact .inr rfl
theorem getElem?_vRd {i : Nat} {d : D} (h : (vRd ρ)[i]? = some (some d)) : ρ[i]? = some (Sv.ro d) := by
  unfold vRd at h
  rw [List.getElem?_map] at h
  cases e : ρ[i]? with
  | none => rw [e] at h; cases h
  | some s =>
    rw [e] at h
    cases s with
    | no => cases h
    | ro d' => cases h; rfl
    | ow d' => cases h
theorem ST.all (h : ST K H₀ S w σ H ρ G) : Sl K S H (vAll ρ) σ := fun i d e => by
  rcases getElem?_vAll e with e | e
  · obtain ⟨v, e1, q⟩ := h.ro i d e
    exact ⟨v, e1, Dn.fits (.mono fun _ z => z.1) d v q⟩
  · obtain ⟨e1, e2, q⟩ := h.own i d e
    exact ⟨_, e1, q.dn (h.fc _ e2) fun _ z => z.1⟩
theorem ST.rd (h : ST K H₀ S w σ H ρ G) : Sl K (SO S w ρ) H (vRd ρ) σ := fun i d e => h.ro i d (getElem?_vRd e)
theorem ST.same (h : ST K H₀ S w σ H ρ G) (e : Same H H') : ST K H₀ S w σ H' ρ G :=
  ⟨h.fc, h.sm.trans e, fun i d q => let ⟨a, b, c⟩ := h.own i d q; ⟨a, b, c.fits (.same e) fun o z => e _ o z⟩, h.inj, fun i d q => let ⟨v, a, b⟩ := h.ro i d q; ⟨v, a, Dn.fits (.same e) d v b⟩, fun g hg => Dn.fits (.same e) _ _ (h.gh g hg), fun i xs q => h.rwN q fun o z => e _ o z⟩
theorem SO.mono {ρ' : SEnv} (hw : ∀ (i : Nat) (d : D), ρ'[i]? = some (Sv.ow d) → ∃ e, ρ[i]? = some (Sv.ow e)) : ∀ a, SO S w ρ a → SO S w ρ' a := fun a hq6 => by obtain ⟨s, n⟩ := hq6; exact ⟨s, fun i d e => let ⟨d', e'⟩ := hw i d e; n i d' e'⟩
theorem get_set {α : Type} {l : List α} {i j : Nat} {x y : α} (h : (l.set i x)[j]? = some y) : (j = i ∧ y = x ∧ i < l.length) ∨ (j ≠ i ∧ l[j]? = some y) := by
  by_cases e : j = i
  · subst e
    by_cases hl : j < l.length
    · rw [List.getElem?_set_self hl] at h
      exact .inl ⟨rfl, (Option.some.inj h).symm, hl⟩
    · rw [List.getElem?_eq_none (by simp; omega)] at h
      cases h
  · rw [List.getElem?_set_ne (Ne.symm e)] at h
    exact .inr ⟨e, h⟩
theorem ST.set_ro {i : Nat} {d : D} {v : V} (h : ST K H₀ S w σ H ρ G) (hi : i < σ.length) (q : Dn K (SO S w ρ) H d v) : ST K H₀ S w (σ.set i (some v)) H (ρ.set i (.ro d)) G := by
  have hw : ∀ (j : Nat) (e : D), (ρ.set i (.ro d))[j]? = some (Sv.ow e) → j ≠ i ∧ ρ[j]? = some (Sv.ow e) := fun j e he => by
    rcases get_set he with ⟨_, z, _⟩ | z
    · cases z
    · exact z
  have m : ∀ a, SO S w ρ a → SO S w (ρ.set i (.ro d)) a := SO.mono fun j e he => ⟨e, (hw j e he).2⟩
  refine ⟨h.fc, h.sm, fun j e he => ?_, fun j k d' e' h1 h2 => h.inj j k d' e' (hw j d' h1).2 (hw k e' h2).2, fun j e he => ?_, fun g hg => Dn.fits (.mono m) _ _ (h.gh g hg), fun j xs hx => h.rw j xs (hw j _ hx).2⟩
  · obtain ⟨hj, he'⟩ := hw j e he
    obtain ⟨a, b, c⟩ := h.own j e he'
    exact ⟨by rw [List.getElem?_set_ne (Ne.symm hj)]; exact a, b, c.fits (.mono m) fun _ z => z⟩
  · rcases get_set he with ⟨hj, z, _⟩ | ⟨hj, z⟩
    · cases z
      subst hj
      exact ⟨v, List.getElem?_set_self hi, Dn.fits (.mono m) d v q⟩
    · obtain ⟨u, a, b⟩ := h.ro j e z
      exact ⟨u, by rw [List.getElem?_set_ne (Ne.symm hj)]; exact a, Dn.fits (.mono m) e u b⟩
noncomputable def freeze (ρ : SEnv) (i : Nat) : SEnv := match ρ[i]? with
  | some (.ow d) => ρ.set i (.ro d)
  | _ => ρ
theorem ST.frozen {i : Nat} (h : ST K H₀ S w σ H ρ G) : ST K H₀ S w σ H (freeze ρ i) G := by
  unfold freeze
  cases e : ρ[i]? with
  | none => exact h
  | some s =>
    cases s with
    | no => exact h
    | ro d => exact h
    | ow d =>
      dsimp only
      obtain ⟨a, b, c⟩ := h.own i d e
      have hi : i < σ.length := (List.getElem?_eq_some_iff.mp a).1
      have hw : ∀ (j : Nat) (e : D), (ρ.set i (.ro d))[j]? = some (Sv.ow e) → j ≠ i ∧ ρ[j]? = some (Sv.ow e) := fun j e he => by
        rcases get_set he with ⟨_, z, _⟩ | z
        · cases z
        · exact z
      have m : ∀ a, SO S w ρ a → SO S w (ρ.set i (.ro d)) a := SO.mono fun j e he => ⟨e, (hw j e he).2⟩
      refine ⟨h.fc, h.sm, fun j f hf => ?_, fun j k d' e' h1 h2 => h.inj j k d' e' (hw j d' h1).2 (hw k e' h2).2, fun j f hf => ?_, fun g hg => Dn.fits (.mono m) _ _ (h.gh g hg), fun j xs hx => h.rw j xs (hw j _ hx).2⟩
      · obtain ⟨a, b, c⟩ := h.own j f (hw j f hf).2
        exact ⟨a, b, c.fits (.mono m) fun _ z => z⟩
      · rcases get_set hf with ⟨hj, z, _⟩ | ⟨hj, z⟩
        · cases z
          subst hj
          refine ⟨_, a, c.dn ⟨h.fc _ b, fun k f' hk z => ?_⟩ m⟩
          obtain ⟨hk1, hk2⟩ := hw k f' hk
          exact hk1 (h.inj _ _ _ _ e hk2 z).symm
        · obtain ⟨u, a, b⟩ := h.ro j f z
          exact ⟨u, a, Dn.fits (.mono m) f u b⟩
theorem ST.set_ow {i : Nat} {d : D} {p : Addr} (h : ST K H₀ S w σ H ρ G) (hi : i < σ.length) (e : Same H H') (hp : H p = none) (q : OwnD K (fun a => SO S w ρ a ∧ a ≠ p) H' d p)
    (hr : ∀ xs, d = .rws xs → ∀ ys, H' p = some (.lst ys) → ∀ a, V.ref a ∈ ys → H₀ a = none := by intro _ z; cases z) :
    ST K H₀ S (fun j => if j = i then p else w j) (σ.set i (some (.ref p))) H' (ρ.set i (.ow d)) G := by
  have h0 : H₀ p = none := h.sm.free hp
  have hw : ∀ (j : Nat) (e : D), j ≠ i → (ρ.set i (.ow d))[j]? = some (Sv.ow e) → ρ[j]? = some (Sv.ow e) := fun j e hj he => by
    rcases get_set he with ⟨z, _, _⟩ | ⟨_, z⟩
    · exact absurd z hj
    · exact z
  have m : ∀ a, (SO S w ρ a ∧ a ≠ p) → SO S (fun j => if j = i then p else w j) (ρ.set i (.ow d)) a := fun a ⟨⟨s, n⟩, ne⟩ => ⟨s, fun j f hf => by
    show a ≠ (if j = i then p else w j)
    by_cases hj : j = i
    · rw [if_pos hj]; exact ne
    · rw [if_neg hj]; exact n j f (hw j f hj hf)⟩
  have F : Fits K (SO S w ρ) (SO S (fun j => if j = i then p else w j) (ρ.set i (.ow d))) H H' := ((Fits.fresh hp).trans (.mono m)).trans (.same e)
  have wp : ∀ (j : Nat) (f : D), ρ[j]? = some (Sv.ow f) → w j ≠ p := fun j f hf z => by
    have wr := (h.own j f hf).2.2.wr
    rw [z] at wr
    rcases wr with ⟨xs, k⟩ | ⟨xs, k⟩ | ⟨_, xs, k⟩ <;> rw [hp] at k <;> cases k
  refine ⟨h.fc, h.sm.trans e, fun j f hf => ?_, fun j k d' e' h1 h2 z => ?_, fun j f hf => ?_, fun g hg => Dn.fits F _ _ (h.gh g hg), fun j xs hx => ?_⟩
  rotate_right
  · show ∀ ys, H' (if j = i then p else w j) = some (.lst ys) → _
    by_cases hj : j = i
    · subst hj
      rw [if_pos rfl]
      rcases get_set hx with ⟨_, z, _⟩ | ⟨z, _⟩
      · exact hr xs (Sv.ow.inj z).symm
      · exact absurd rfl z
    · rw [if_neg hj]
      exact h.rwN (hw j _ hj hx) fun o z => e _ o z
  · by_cases hj : j = i
    · subst hj
      rcases get_set hf with ⟨_, z, _⟩ | ⟨z, _⟩
      · cases z
        rw [if_pos rfl]
        exact ⟨List.getElem?_set_self hi, h0, q.fits (.mono m) fun _ z => z⟩
      · exact absurd rfl z
    · rw [if_neg hj]
      obtain ⟨a, b, c⟩ := h.own j f (hw j f hj hf)
      exact ⟨by rw [List.getElem?_set_ne (Ne.symm hj)]; exact a, b, c.fits F fun o z => e _ o z⟩
  · have z : (if j = i then p else w j) = (if k = i then p else w k) := z
    by_cases hj : j = i
    · by_cases hk : k = i
      · rw [hj, hk]
      · rw [if_pos hj, if_neg hk] at z
        exact absurd z.symm (wp k e' (hw k e' hk h2))
    · by_cases hk : k = i
      · rw [if_neg hj, if_pos hk] at z
        exact absurd z (wp j d' (hw j d' hj h1))
      · rw [if_neg hj, if_neg hk] at z
        exact h.inj j k d' e' (hw j d' hj h1) (hw k e' hk h2) z
  · rcases get_set hf with ⟨_, z, _⟩ | ⟨hj, z⟩
    · cases z
    · obtain ⟨u, a, b⟩ := h.ro j f z
      exact ⟨u, by rw [List.getElem?_set_ne (Ne.symm hj)]; exact a, Dn.fits F f u b⟩
theorem ST.write {i : Nat} {d d' : D} {o : HO} (h : ST K H₀ S w σ H ρ G) (e : ρ[i]? = some (Sv.ow d)) (q : OwnD K (SO S w ρ) (upd H (w i) o) d' (w i)) (hr : ∀ xs, d' ≠ .rws xs := by intro _ z; cases z) : ST K H₀ S w σ (upd H (w i) o) (ρ.set i (.ow d')) G := by
  obtain ⟨a0, b0, c0⟩ := h.own i d e
  have so : SO S w (ρ.set i (.ow d')) = SO S w ρ := by
    funext a
    refine propext ⟨fun ⟨s, n⟩ => ⟨s, fun j f hf => ?_⟩, fun ⟨s, n⟩ => ⟨s, fun j f hf => ?_⟩⟩
    · by_cases hj : j = i
      · subst hj
        exact n j d' (by rw [List.getElem?_set_self (List.getElem?_eq_some_iff.mp e).1])
      · exact n j f (by rw [List.getElem?_set_ne (Ne.symm hj)]; exact hf)
    · by_cases hj : j = i
      · subst hj; exact n j d e
      · exact n j f (by rw [List.getElem?_set_ne (Ne.symm hj)] at hf; exact hf)
  have nS : ¬ SO S w ρ (w i) := fun ⟨_, n⟩ => n i d e rfl
  have F : Fits K (SO S w ρ) (SO S w ρ) H (upd H (w i) o) := .upd c0.wr nS
  refine ⟨h.fc, fun b u hb => ?_, fun j f hf => ?_, fun j k d1 e1 h1 h2 z => ?_, fun j f hf => ?_, fun g hg => by rw [so]; exact Dn.fits F _ _ (h.gh g hg), fun j xs hx => ?_⟩
  rotate_right
  · rcases get_set hx with ⟨_, z, _⟩ | ⟨hj, z⟩
    · exact absurd (Sv.ow.inj z).symm (hr xs)
    · exact h.rwN z fun ob hob => by rw [upd_ne fun y => hj (h.inj _ _ _ _ z e y)]; exact hob
  · rw [upd_ne (ne_of_none hb b0)]
    exact h.sm b u hb
  · rw [so]
    rcases get_set hf with ⟨hj, z, _⟩ | ⟨hj, z⟩
    · cases z
      subst hj
      exact ⟨a0, b0, q⟩
    · obtain ⟨a, b, c⟩ := h.own j f z
      exact ⟨a, b, c.fits F fun ob hob => by rw [upd_ne fun y => hj (h.inj _ _ _ _ z e y)]; exact hob⟩
  · have g1 : ∃ d2, ρ[j]? = some (Sv.ow d2) := by
      rcases get_set h1 with ⟨hj, _, _⟩ | ⟨_, z⟩
      · subst hj; exact ⟨d, e⟩
      · exact ⟨_, z⟩
    have g2 : ∃ d2, ρ[k]? = some (Sv.ow d2) := by
      rcases get_set h2 with ⟨hj, _, _⟩ | ⟨_, z⟩
      · subst hj; exact ⟨d, e⟩
      · exact ⟨_, z⟩
    obtain ⟨_, g1⟩ := g1
    obtain ⟨_, g2⟩ := g2
    exact h.inj j k _ _ g1 g2 z
  · rw [so]
    rcases get_set hf with ⟨_, z, _⟩ | ⟨hj, z⟩
    · cases z
    · obtain ⟨u, a, b⟩ := h.ro j f z
      exact ⟨u, a, Dn.fits F f u b⟩
theorem ST.ghost (h : ST K H₀ S w σ H ρ G) {G' : List (D × V)} (hg : ∀ g ∈ G', Dn K (SO S w ρ) H g.1 g.2) : ST K H₀ S w σ H ρ G' := ⟨h.fc, h.sm, h.own, h.inj, h.ro, hg, h.rw⟩
end
end L3
end
section
set_option Elab.async false
set_option linter.all false
set_option maxRecDepth 100000
set_option maxHeartbeats 3999999
namespace L3
open PySem PySem.Spec PyProof.Rows L2
noncomputable abbrev WE := DEnv → (D → Prop) → Prop
noncomputable abbrev WT := DEnv → (Bool → Prop) → Prop
noncomputable abbrev WA := DEnv → (List D → Prop) → Prop
noncomputable def lift (K : PySem.W.Frag) (t : WE) : TE := fun σ H Q => ∃ (S : Addr → Prop) (ρ : DEnv) (Q3 : D → Prop), (∀ a, H a = none → S a) ∧ Sl K S H ρ σ ∧ t ρ Q3 ∧ ∀ v H' d, Same H H' → Dn K S H' d v → Q3 d → Q v H'
noncomputable def liftT (K : PySem.W.Frag) (t : WT) : TT := fun σ H Q => ∃ (S : Addr → Prop) (ρ : DEnv) (Q3 : Bool → Prop), (∀ a, H a = none → S a) ∧ Sl K S H ρ σ ∧ t ρ Q3 ∧ ∀ b H', Same H H' → Q3 b → Q b H'
noncomputable def liftA (K : PySem.W.Frag) (t : WA) : TA := fun σ H Q => ∃ (S : Addr → Prop) (ρ : DEnv) (Q3 : List D → Prop), (∀ a, H a = none → S a) ∧ Sl K S H ρ σ ∧ t ρ Q3 ∧ ∀ vs H' ds, Same H H' → Dns K S H' ds vs → Q3 ds → Q vs H'
noncomputable def liftF (K : PySem.W.Frag) (t : WE) : TE := fun σ H Q => ∃ (S : Addr → Prop) (ρ : DEnv) (Q3 : D → Prop), (∀ a, H a = none → S a) ∧ Sl K S H ρ σ ∧ t ρ Q3 ∧
  ∀ p xs H' ds, H p = none → H' p = some (.lst xs) → Same H H' → Dns K (fun a => S a ∧ a ≠ p) H' ds xs → Q3 (.lst ds) → Q (.ref p) H'
noncomputable def PE3 (X : Cx) (e : Expr) (t : WE) : Prop := PE X e (lift X.K t)
noncomputable def PF3 (X : Cx) (e : Expr) (t : WE) : Prop := PE X e (liftF X.K t)
noncomputable def PT3 (X : Cx) (e : Expr) (t : WT) : Prop := PT X e (liftT X.K t)
noncomputable def PA3 (X : Cx) (es : List Expr) (t : WA) : Prop := PA X es (liftA X.K t)
section
variable {X : Cx}
theorem imp {e : Expr} {t t' : TE} (h : PE X e t) (f : ∀ σ H Q, t' σ H Q → t σ H Q) : PE X e t' := fun pins s σ H Q I q => h pins s σ H Q I (f σ H Q q)
theorem impT {e : Expr} {t t' : TT} (h : PT X e t) (f : ∀ σ H Q, t' σ H Q → t σ H Q) : PT X e t' := fun pins s σ H Q I q => h pins s σ H Q I (f σ H Q q)
theorem impA {e : List Expr} {t t' : TA} (h : PA X e t) (f : ∀ σ H Q, t' σ H Q → t σ H Q) : PA X e t' := fun pos pins s σ H Q I q => h pos pins s σ H Q I (f σ H Q q)
theorem fc_same {H H' : Hp} {S : Addr → Prop} (fc : ∀ a, H a = none → S a) (s : Same H H') : ∀ a, H' a = none → S a := fun a e => fc a (s.free e)
theorem PF3.pe {e : Expr} {t : WE} (h : PF3 X e t) : PE3 X e t := imp h fun σ H Q hq7 => by
 obtain ⟨S, ρ, Q3, fc, sl, ht, k⟩ := hq7
 exact ⟨S, ρ, Q3, fc, sl, ht, fun p xs H' ds hp hp' s dn q => k _ H' _ s (by simp only [Dn]; exact ⟨p, xs, rfl, hp', fc p hp, Dns.fits (.mono fun _ z => z.1) ds xs dn⟩) q⟩
noncomputable def wVar (i : Nat) : WE := fun ρ Q => match ρ[i]? with
  | some (some d) => Q d
  | _ => False
noncomputable def wC (d : D) : WE := fun _ Q => Q d
theorem lift_var {K : PySem.W.Frag} {i : Nat} {σ : L2.St} {H : Hp} {Q : VK} (h : lift K (wVar i) σ H Q) : tVar i σ H Q := by
  obtain ⟨S, ρ, Q3, fc, sl, ht, k⟩ := h
  unfold wVar at ht
  split at ht
  · rename_i d e
    obtain ⟨v, e1, q⟩ := sl i d e
    exact ⟨v, e1, k v H d (Same.refl H) q ht⟩
  · exact ht.elim
theorem x3 (i : Nat) {x : Str} {pos : Pos} (hN : X.N[i]? = some x := by rfl) (hv : Vis X.env.scope x := by first | exact Or.inl rfl | exact Or.inr (Or.inl rfl) | exact Or.inr (Or.inr rfl)) (hd : (x == ("__debug__" : Str)) = false := by decide)
    (hcd : (x == ("__classdict__" : Str)) = false := by decide) : PE3 X (.Name x pos) (wVar i) := imp (pe_var hN hv hd hcd) fun _ _ _ => lift_var
theorem lift_c {K : PySem.W.Frag} {d : D} {v : V} {σ : L2.St} {H : Hp} {Q : VK} (hd : ∀ S H, Dn K S H d v) (h : lift K (wC d) σ H Q) : tC v σ H Q := by
  obtain ⟨S, ρ, Q3, fc, sl, ht, k⟩ := h
  exact k v H d (Same.refl H) (hd S H) ht
theorem i3 {i : Int} {j pos} : PE3 X (.Constant (.int i) j pos) (wC (.int i)) := imp pe_int fun _ _ _ => lift_c (fun _ _ => by simp only [Dn])
theorem b3 {b : Bool} {j pos} : PE3 X (.Constant (.bool b) j pos) (wC (.bl b)) := imp pe_bl fun _ _ _ => lift_c (fun _ _ => by simp only [Dn])
theorem n3 {j pos} : PE3 X (.Constant .none j pos) (wC .non) := imp pe_non fun _ _ _ => lift_c (fun _ _ => by simp only [Dn])
theorem s3 {x : Str} {j pos} : PE3 X (.Constant (.str x) j pos) (wC (.str x)) := imp pe_str fun _ _ _ => lift_c (fun _ _ => by simp only [Dn])
theorem g3 {x : Str} {i : Int} {t : Tok} {pos : Pos} (hg : Gl X x) (hm : X.mg x = some (.int i t)) (hd : (x == ("__debug__" : Str)) = false := by decide) : PE3 X (.Name x pos) (wC (.int i)) :=
  imp (pe_glob hg hm (v := .int i) ⟨t, rfl⟩ hd) fun _ _ _ => lift_c (fun _ _ => by simp only [Dn])
noncomputable abbrev F2 := D → D → (D → Prop) → Prop
noncomputable def wBin (f : F2) (ta tb : WE) : WE := fun ρ Q => ta ρ fun x => tb ρ fun y => f x y Q
noncomputable def O3 (K : PySem.W.Frag) (r : R2) (f : F2) : Prop := ∀ (S : Addr → Prop) (H : Hp) (x y : V) (dx dy : D) (Q3 : D → Prop) (Q : VK), (∀ a, H a = none → S a) → Dn K S H dx x → Dn K S H dy y → f dx dy Q3 →
  (∀ v H' d, Same H H' → Dn K S H' d v → Q3 d → Q v H') → r x y H Q
theorem lift_bin {K : PySem.W.Frag} {r : R2} {f : F2} {ta tb : WE} {σ : L2.St} {H : Hp} {Q : VK} (h3 : O3 K r f) (h : lift K (wBin f ta tb) σ H Q) : tOp r (lift K ta) (lift K tb) σ H Q := by
  obtain ⟨S, ρ, Q3, fc, sl, ht, k⟩ := h
  refine ⟨S, ρ, _, fc, sl, ht, fun v H1 d s1 d1 q1 => ?_⟩
  refine ⟨S, ρ, _, fc_same fc s1, Sl.fits (.same s1) sl, q1, fun u H2 d2 s2 d2' q2 => ?_⟩
  exact h3 S H2 v u d d2 Q3 Q (fc_same fc (s1.trans s2)) (Dn.fits (.same s2) _ _ d1) d2' q2 fun v' H' d' s' dn' q' => k v' H' d' ((s1.trans s2).trans s') dn' q'
theorem op3 {a b : Expr} {op : Operator} {pos : Pos} {r : R2} {f : F2} {ta tb : WE} (ho : OpR X (binaryOp op) r) (h3 : O3 X.K r f) (ha : PE3 X a ta) (hb : PE3 X b tb) : PE3 X (.BinOp a op b pos) (wBin f ta tb) :=
  imp (pe_op ho ha hb) fun _ _ _ => lift_bin h3
noncomputable def intF (C : Int → Int → Prop) (g : Int → Int → D) : F2
  | .int i, .int j, Q => C i j ∧ Q (g i j)
  | _, _, _ => False
theorem o3_int {K : PySem.W.Frag} {C : Int → Int → Prop} {g : Int → Int → Int} : O3 K (rI C fun i j => .int (g i j)) (intF C fun i j => .int (g i j)) := by
  intro S H x y dx dy Q3 Q fc hx hy hf k
  cases dx <;> cases dy <;> try exact hf.elim
  simp only [Dn] at hx hy
  exact ⟨_, _, hx, hy, hf.1, k _ H _ (Same.refl H) (by simp only [Dn]) hf.2⟩
noncomputable def intF0 (g : Int → Int → D) : F2
  | .int i, .int j, Q => Q (g i j)
  | _, _, _ => False
theorem o3_int0 {K : PySem.W.Frag} {g : Int → Int → Int} : O3 K (rI0 fun i j => .int (g i j)) (intF0 fun i j => .int (g i j)) := by
  intro S H x y dx dy Q3 Q fc hx hy hf k
  cases dx <;> cases dy <;> try exact hf.elim
  simp only [Dn] at hx hy
  exact ⟨_, _, hx, hy, k _ H _ (Same.refl H) (by simp only [Dn]) hf⟩
noncomputable def subF : F2 := intF0 fun i j => .int (i - j)
noncomputable def modF : F2 := intF (fun _ j => 0 < j) fun i j => .int (i % j)
noncomputable def divF : F2 := intF CDiv fun i j => .int (i / j)
noncomputable def powF : F2 := intF CPow fun i j => .int (i ^ j.toNat)
section
variable {a b : Expr} {pos : Pos} {ta tb : WE}
theorem sub3 (ha : PE3 X a ta) (hb : PE3 X b tb) : PE3 X (.BinOp a .Sub b pos) (wBin subF ta tb) := op3 op_sub o3_int0 ha hb
theorem mod3 (ha : PE3 X a ta) (hb : PE3 X b tb) : PE3 X (.BinOp a .Mod b pos) (wBin modF ta tb) := op3 op_mod o3_int ha hb
theorem div3 (ha : PE3 X a ta) (hb : PE3 X b tb) : PE3 X (.BinOp a .FloorDiv b pos) (wBin divF ta tb) := op3 op_fdiv o3_int ha hb
theorem pow3 (ha : PE3 X a ta) (hb : PE3 X b tb) : PE3 X (.BinOp a .Pow b pos) (wBin powF ta tb) := op3 op_pow o3_int ha hb
end
noncomputable def catTF (K : PySem.W.Frag) : R2 := fun x y H Q => ∃ a b xs ys, x = .ref a ∧ y = .ref b ∧ SqT K H a xs ∧ SqT K H b ys ∧ xs.length + ys.length ≤ sizeLine ∧
  (xs = [] → Q (.ref b) H) ∧ (xs ≠ [] → ys = [] → Q (.ref a) H) ∧ (xs ≠ [] → ys ≠ [] → ∀ p, H p = none → Q (.ref p) (upd H p (.tup (xs ++ ys))))
theorem cat_tup0 {prog : Program} {w : World} {A : Around} {E : Value → Shared → Prop} {s : Shared} {t b : Addr} {ws : List Value} {Q : Value → Shared → Prop} (ht : IsTup s.heap t #[]) (hb : IsTup s.heap b ws.toArray)
    (h1 : Q (.ref b) s) : wpAny (model prog w) A (binaryOp .Add (.ref t) (.ref b)) Q E s := by
  obtain ⟨⟨cls, dd, data, sl⟩, ho, hc, n, hd⟩ := id ht
  obtain ⟨⟨cls2, dd2, data2, sl2⟩, ho2, hc2, n2, hd2⟩ := id hb
  simp only at hc hd hc2 hd2
  subst hc hd hc2 hd2
  exact concat_meets ⟨_, ho, rfl⟩ ⟨_, ho2, rfl⟩ noFill_tuple_add seq_tuple_add PySem.F.slot_tuple_add PySem.F.entry_tuple_add (PySem.F.args_tuple_add_2 _ _)
      (tuple_addW0 t b #[] ws.toArray n n2 dd dd2 sl sl2 (by simp)) ⟨ho, ho2, h1⟩
theorem op_catT2 : OpR X (binaryOp .Add) (catTF X.K) := by
  intro pins s σ H x y v u Q I rx ry h
  obtain ⟨a, b, xs, ys, rfl, rfl, ha, hb, hz, q0, q1, q2⟩ := h
  by_cases hx : xs = []
  · cases rx
    cases ry
    subst hx
    obtain ⟨its, r1, p1, _⟩ := I.tuple ha
    obtain ⟨its2, r2, p2, _⟩ := I.tuple hb
    cases r1
    exact cat_tup0 p1 p2 ⟨.ref b, H, I, rfl, q0 rfl⟩
  · exact op_catT pins s σ H _ _ v u Q I rx ry ⟨a, b, xs, ys, rfl, rfl, ha, hb, hx, hz, q1 hx, q2 hx⟩
noncomputable def addF : F2
  | .int i, .int j, Q => Q (.int (i + j))
  | .lst a, .lst b, Q => a.length + b.length ≤ sizeLine ∧ Q (.lst (a ++ b))
  | .tup a, .tup b, Q => a.length + b.length ≤ sizeLine ∧ Q (.tup (a ++ b))
  | .str a, .str b, Q => a.length + b.length ≤ sizeLine ∧ Q (.str (a ++ b))
  | _, _, _ => False
noncomputable def rAdd (K : PySem.W.Frag) : R2 := fun x y H Q => (rI0 fun i j => .int (i + j)) x y H Q ∨ (rCat x y H Q ∨ (catTF K x y H Q ∨ ∃ i j, x = .str i ∧ y = .str j ∧ i.length + j.length ≤ sizeLine ∧ Q (.str (i ++ j)) H))
theorem o3_add {K : PySem.W.Frag} : O3 K (rAdd K) addF := by
  intro S H x y dx dy Q3 Q fc hx hy hf k
  cases dx with
  | int i =>
    cases dy with
    | int j => simp only [Dn] at hx hy; exact .inl ⟨_, _, hx, hy, k _ H _ (Same.refl H) (by simp only [Dn]) hf⟩
    | _ => exact hf.elim
  | str i =>
    cases dy with
    | str j => simp only [Dn] at hx hy; exact .inr (.inr (.inr ⟨_, _, hx, hy, hf.1, k _ H _ (Same.refl H) (by simp only [Dn]) hf.2⟩))
    | _ => exact hf.elim
  | lst ds =>
    cases dy with
    | lst es =>
      simp only [Dn] at hx hy
      obtain ⟨a, xs, rfl, ha, sa, da⟩ := hx
      obtain ⟨b, ys, rfl, hb, sb, db⟩ := hy
      refine .inr (.inl ⟨a, b, xs, ys, rfl, rfl, ha, hb, by rw [← da.len, ← db.len]; exact hf.1, fun p hp => k _ _ _ (same_upd hp) ?_ hf.2⟩)
      simp only [Dn]
      exact ⟨p, _, rfl, upd_same, fc p hp, Dns.fits (.same (same_upd hp)) _ _ (da.append db)⟩
    | _ => exact hf.elim
  | tup ds =>
    cases dy with
    | tup es =>
      simp only [Dn] at hx hy
      obtain ⟨a, xs, rfl, ha, da⟩ := hx
      obtain ⟨b, ys, rfl, hb, db⟩ := hy
      refine .inr (.inr (.inl ⟨a, b, xs, ys, rfl, rfl, SqT.of ha, SqT.of hb, by rw [← da.len, ← db.len]; exact hf.1, fun e => ?_, fun _ e => ?_, fun _ _ p hp => ?_⟩))
      · subst e
        have e2 : ds = [] := List.length_eq_zero_iff.mp da.len
        subst e2
        exact k _ H _ (Same.refl H) (by simp only [Dn]; exact ⟨b, ys, rfl, hb, db⟩) hf.2
      · subst e
        have e2 : es = [] := List.length_eq_zero_iff.mp db.len
        subst e2
        have q := hf.2
        rw [List.append_nil] at q
        exact k _ H _ (Same.refl H) (by simp only [Dn]; exact ⟨a, xs, rfl, ha, da⟩) q
      · refine k _ _ _ (same_upd hp) ?_ hf.2
        simp only [Dn]
        exact ⟨p, _, rfl, upd_same, Dns.fits (.same (same_upd hp)) _ _ (da.append db)⟩
    | _ => exact hf.elim
  | _ => cases dy <;> exact hf.elim
theorem op_add3 : OpR X (binaryOp .Add) (rAdd X.K) := OpR.or op_add (OpR.or op_cat (OpR.or op_catT2 op_add_str))
theorem add3 {a b : Expr} {pos : Pos} {ta tb : WE} (ha : PE3 X a ta) (hb : PE3 X b tb) : PE3 X (.BinOp a .Add b pos) (wBin addF ta tb) := op3 op_add3 o3_add ha hb
noncomputable def catF : F2
  | .lst a, .lst b, Q => a.length + b.length ≤ sizeLine ∧ Q (.lst (a ++ b))
  | _, _, _ => False
theorem catN3 {a b : Expr} {pos : Pos} {ta tb : WE} (ha : PE3 X a ta) (hb : PE3 X b tb) : PF3 X (.BinOp a .Add b pos) (wBin catF ta tb) := imp (pe_op op_cat ha hb) fun σ H Q h => by
  obtain ⟨S, ρ, Q3, fc, sl, ht, k⟩ := h
  refine ⟨S, ρ, _, fc, sl, ht, fun v H1 d s1 d1 q1 => ?_⟩
  refine ⟨S, ρ, _, fc_same fc s1, Sl.fits (.same s1) sl, q1, fun u H2 d2 s2 d2' q2 => ?_⟩
  cases d <;> cases d2 <;> try exact q2.elim
  simp only [Dn] at d1 d2'
  obtain ⟨a, xs, rfl, ha, sa, da⟩ := d1
  obtain ⟨b, ys, rfl, hb, sb, db⟩ := d2'
  have da' := Dns.fits (.same s2) _ _ da
  refine ⟨a, b, xs, ys, rfl, rfl, s2 _ _ ha, hb, by rw [← da.len, ← db.len]; exact q2.1, fun p hp => k p _ _ _ ((s1.trans s2).free hp) upd_same ((s1.trans s2).trans (same_upd hp)) ?_ q2.2⟩
  exact Dns.fits ((Fits.fresh hp).trans (.same (same_upd hp))) _ _ (da'.append db)
noncomputable def wNil : WA := fun _ Q => Q []
noncomputable def wCons (ta : WE) (t : WA) : WA := fun ρ Q => ta ρ fun d => t ρ fun ds => Q (d :: ds)
theorem nil3 : PA3 X [] wNil := impA pa_nil fun σ H Q hq8 => by obtain ⟨S, ρ, Q3, fc, sl, ht, k⟩ := hq8; exact k [] H [] (Same.refl H) Dns.nil ht
theorem cons3 {e : Expr} {es : List Expr} {te : WE} {t : WA} (ha : PE3 X e te) (hr : PA3 X es t) (hs : starEach (e :: es) X.env = (false, eval e X.env) :: starEach es X.env := by rfl) : PA3 X (e :: es) (wCons te t) :=
  impA (pa_cons ha hr hs) fun σ H Q hq9 => by
    obtain ⟨S, ρ, Q3, fc, sl, ht, k⟩ := hq9
    refine ⟨S, ρ, _, fc, sl, ht, fun v H1 d s1 d1 q1 => ?_⟩
    refine ⟨S, ρ, _, fc_same fc s1, Sl.fits (.same s1) sl, q1, fun us H2 ds s2 d2 q2 => ?_⟩
    exact k _ H2 _ (s1.trans s2) (Dns.cons (Dn.fits (.same s2) _ _ d1) d2) q2
noncomputable def wTup (t : WA) : WE := fun ρ Q => t ρ fun ds => ds.length ≤ sizeLine ∧ Q (.tup ds)
noncomputable def wLst (t : WA) : WE := fun ρ Q => t ρ fun ds => ds.length ≤ sizeLine ∧ Q (.lst ds)
theorem tup3 {es : List Expr} {t : WA} {x1} {pos : Pos} (h : PA3 X es t) : PE3 X (.Tuple es x1 pos) (wTup t) := imp (pe_tup h) fun σ H Q hq10 => by
  obtain ⟨S, ρ, Q3, fc, sl, ht, k⟩ := hq10
  refine ⟨S, ρ, _, fc, sl, ht, fun vs H1 ds s1 d1 q1 => ⟨by rw [← d1.len]; exact q1.1, fun p hp => k _ _ _ (s1.trans (same_upd hp)) ?_ q1.2⟩⟩
  simp only [Dn]
  exact ⟨p, _, rfl, upd_same, Dns.fits (.same (same_upd hp)) _ _ d1⟩
theorem lst3 {es : List Expr} {t : WA} {pos : Pos} (h : PA3 X es t) : PF3 X (.List es pos) (wLst t) := imp (pe_lst h) fun σ H Q hq11 => by
  obtain ⟨S, ρ, Q3, fc, sl, ht, k⟩ := hq11
  refine ⟨S, ρ, _, fc, sl, ht, fun vs H1 ds s1 d1 q1 => ⟨by rw [← d1.len]; exact q1.1, fun p hp => k p vs _ ds (s1.free hp) upd_same (s1.trans (same_upd hp)) ?_ q1.2⟩⟩
  exact Dns.fits ((Fits.fresh hp).trans (.same (same_upd hp))) _ _ d1
end
end L3
end
section
set_option Elab.async false
set_option linter.all false
set_option maxRecDepth 100000
set_option maxHeartbeats 3999999
namespace L3
open PySem PySem.Spec PyProof.Rows L2
section
variable {X : Cx}
noncomputable def wTest (t : WE) : WT := fun ρ Q => t ρ fun d => match d with
  | .bl b => Q b
  | _ => False
theorem lift_test {K : PySem.W.Frag} {t : WE} {σ : L2.St} {H : Hp} {Q : Bool → Hp → Prop} (h : liftT K (wTest t) σ H Q) : tTest (lift K t) σ H Q := by
  obtain ⟨S, ρ, Q3, fc, sl, ht, k⟩ := h
  refine ⟨S, ρ, _, fc, sl, ht, fun v H1 d s1 d1 q1 => ?_⟩
  cases d with
  | bl b => simp only [Dn] at d1; exact ⟨b, d1, k b H1 s1 q1⟩
  | _ => exact q1.elim
theorem tTest_mono {t t' : TE} {σ : L2.St} {H : Hp} {Q : Bool → Hp → Prop} (f : ∀ σ H Q, t' σ H Q → t σ H Q) (h : tTest t' σ H Q) : tTest t σ H Q := f σ H _ h
theorem cmp3 {a b : Expr} {op : CmpOp} {pos : Pos} {r : R2} {f : F2} {ta tb : WE} (ho : OpR X (compareOp op) r) (h3 : O3 X.K r f) (ha : PE3 X a ta) (hb : PE3 X b tb) (hm : behindInMarks op b = false) : PE3 X (.Compare a [op] [b] pos) (wBin f ta tb) :=
  imp (pe_cmpR ho ha hb hm) fun _ _ _ => lift_bin h3
theorem cmpT3 {a b : Expr} {op : CmpOp} {pos : Pos} {r : R2} {f : F2} {ta tb : WE} (ho : OpR X (compareOp op) r) (h3 : O3 X.K r f) (ha : PE3 X a ta) (hb : PE3 X b tb) (hm : behindInMarks op b = false) : PT3 X (.Compare a [op] [b] pos) (wTest (wBin f ta tb)) :=
  impT (pt_cmpR ho ha hb hm) fun _ _ _ h => tTest_mono (fun _ _ _ => lift_bin h3) (lift_test h)
theorem o3_cmp {K : PySem.W.Frag} {g : Int → Int → Bool} : O3 K (rI0 fun i j => .bl (g i j)) (intF0 fun i j => .bl (g i j)) := by
  intro S H x y dx dy Q3 Q fc hx hy hf k
  cases dx <;> cases dy <;> try exact hf.elim
  simp only [Dn] at hx hy
  exact ⟨_, _, hx, hy, k _ H _ (Same.refl H) (by simp only [Dn]) hf⟩
noncomputable def scalD : D → D → Bool
  | .non, .non => true | .non, .int _ => true | .int _, .non => true | .non, .bl _ => true | .bl _, .non => true | .non, .str _ => true | .str _, .non => true
  | .int _, .int _ => true | .bl _, .bl _ => true | .str _, .str _ => true | .int _, .str _ => true | .str _, .int _ => true | .bl _, .str _ => true | .str _, .bl _ => true
  | _, _ => false
noncomputable def eqS : D → D → Bool
  | .non, .non => true
  | .int i, .int j => decide (i = j)
  | .bl i, .bl j => decide (i = j)
  | .str i, .str j => decide (i = j)
  | _, _ => false
noncomputable def eqSF : F2 := fun x y Q => scalD x y = true ∧ Q (.bl (eqS x y))
noncomputable def neSF : F2 := fun x y Q => scalD x y = true ∧ Q (.bl (!eqS x y))
theorem scal_eq {K : PySem.W.Frag} {S : Addr → Prop} {H : Hp} {x y : V} {dx dy : D} (hx : Dn K S H dx x) (hy : Dn K S H dy y) (h : scalD dx dy = true) : scal x y = true ∧ decide (x = y) = eqS dx dy := by
  cases dx <;> first
    | (exact absurd (show false = true from h) Bool.false_ne_true)
    | skip
  all_goals (cases dy <;> first
    | (exact absurd (show false = true from h) Bool.false_ne_true)
    | (simp only [Dn] at hx hy; subst hx; subst hy; exact ⟨rfl, by first | exact dec_int | exact dec_bl | exact dec_str | exact decide_eq_false (fun h => by cases h) | exact decide_eq_true rfl⟩))
theorem o3_eqS {K : PySem.W.Frag} : O3 K rEq eqSF := by
  intro S H x y dx dy Q3 Q fc hx hy hf k
  obtain ⟨h1, h2⟩ := scal_eq hx hy hf.1
  exact ⟨h1, k _ H _ (Same.refl H) (by simp only [Dn]; rw [h2]) hf.2⟩
theorem o3_neS {K : PySem.W.Frag} : O3 K rNe neSF := by
  intro S H x y dx dy Q3 Q fc hx hy hf k
  obtain ⟨h1, h2⟩ := scal_eq hx hy hf.1
  exact ⟨h1, k _ H _ (Same.refl H) (by simp only [Dn]; rw [h2]) hf.2⟩
noncomputable def allI : List D → Bool
  | [] => true
  | .int _ :: r => allI r
  | _ :: _ => false
noncomputable def memI (i : Int) : List D → Bool
  | [] => false
  | .int j :: r => j == i || memI i r
  | _ :: r => memI i r
theorem allI_ints : ∀ ns : List Int, allI (ns.map D.int) = true
  | [] => rfl
  | n :: ns => by rw [List.map_cons]; exact allI_ints ns
theorem memI_ints (i : Int) : ∀ ns : List Int, memI i (ns.map D.int) = ns.contains i
  | [] => rfl
  | n :: ns => by
    rw [List.map_cons, memI, memI_ints i ns, List.contains_cons]
    congr 1
    exact Bool.beq_comm
theorem allI_of : ∀ {ds : List D}, allI ds = true → ∃ ns : List Int, ds = ns.map D.int
  | [], _ => ⟨[], rfl⟩
  | .int n :: r, h => by
    obtain ⟨ns, e⟩ := allI_of (ds := r) h
    exact ⟨n :: ns, by rw [e]; rfl⟩
  | .non :: r, h => absurd (show false = true from h) Bool.false_ne_true
  | .bl _ :: r, h => absurd (show false = true from h) Bool.false_ne_true
  | .str _ :: r, h => absurd (show false = true from h) Bool.false_ne_true
  | .tup _ :: r, h => absurd (show false = true from h) Bool.false_ne_true
  | .lst _ :: r, h => absurd (show false = true from h) Bool.false_ne_true
  | .scr _ :: r, h => absurd (show false = true from h) Bool.false_ne_true
  | .dic _ _ :: r, h => absurd (show false = true from h) Bool.false_ne_true
  | .dicT _ _ _ :: r, h => absurd (show false = true from h) Bool.false_ne_true
noncomputable def inF (neg : Bool) : F2
  | .int i, .tup ds, Q => allI ds = true ∧ Q (.bl (if neg then !memI i ds else memI i ds))
  | .int i, .lst ds, Q => allI ds = true ∧ Q (.bl (if neg then !memI i ds else memI i ds))
  | _, _, _ => False
theorem inV_ints (i : Int) : ∀ ns : List Int, inV (.int i) (ns.map V.int) = memI i (ns.map D.int)
  | [] => rfl
  | n :: ns => by
    have e := inV_ints i ns
    unfold inV at e ⊢
    rw [List.map_cons, List.map_cons, List.any_cons, memI, e]
    rfl
theorem flat_ints : ∀ ns : List Int, (ns.map V.int).all flatV = true
  | [] => rfl
  | n :: ns => by rw [List.map_cons, List.all_cons, flat_ints ns]; rfl
theorem o3_in {K : PySem.W.Frag} {neg : Bool} : O3 K (rIn K neg) (inF neg) := by
  intro S H x y dx dy Q3 Q fc hx hy hf k
  cases dx with
  | int i =>
    simp only [Dn] at hx
    subst hx
    cases dy with
    | tup ds =>
      simp only [Dn] at hy
      obtain ⟨a, xs, rfl, ha, da⟩ := hy
      obtain ⟨h1, h2⟩ := hf
      obtain ⟨ns, rfl⟩ := allI_of h1
      have e := Dns.ints.mp da
      subst e
      refine ⟨a, _, rfl, .inr (SqT.of ha), rfl, flat_ints ns, k _ H _ (Same.refl H) ?_ h2⟩
      simp only [Dn]
      rw [inV_ints]
    | lst ds =>
      simp only [Dn] at hy
      obtain ⟨a, xs, rfl, ha, _, da⟩ := hy
      obtain ⟨h1, h2⟩ := hf
      obtain ⟨ns, rfl⟩ := allI_of h1
      have e := Dns.ints.mp da
      subst e
      refine ⟨a, _, rfl, .inl (SqL.of ha), rfl, flat_ints ns, k _ H _ (Same.refl H) ?_ h2⟩
      simp only [Dn]
      rw [inV_ints]
    | _ => exact hf.elim
  | _ => cases dy <;> exact hf.elim
section
variable {a b : Expr} {pos : Pos} {ta tb : WE}
noncomputable def ltF : F2 := intF0 fun i j => .bl (decide (i < j))
noncomputable def gtF : F2 := intF0 fun i j => .bl (decide (i > j))
noncomputable def geF : F2 := intF0 fun i j => .bl (decide (i ≥ j))
theorem gt3 (ha : PE3 X a ta) (hb : PE3 X b tb) : PE3 X (.Compare a [.Gt] [b] pos) (wBin gtF ta tb) := cmp3 op_gt o3_cmp ha hb (nomark _)
theorem eqS3 (ha : PE3 X a ta) (hb : PE3 X b tb) : PE3 X (.Compare a [.Eq] [b] pos) (wBin eqSF ta tb) := cmp3 op_eq o3_eqS ha hb (nomark _)
theorem in3 (ha : PE3 X a ta) (hb : PE3 X b tb) (hm : behindInMarks .In b = false := by with_unfolding_all rfl) : PE3 X (.Compare a [.In] [b] pos) (wBin (inF false) ta tb) := cmp3 op_in_seq o3_in ha hb hm
theorem nin3 (ha : PE3 X a ta) (hb : PE3 X b tb) (hm : behindInMarks .NotIn b = false := by with_unfolding_all rfl) : PE3 X (.Compare a [.NotIn] [b] pos) (wBin (inF true) ta tb) := cmp3 op_notIn_seq o3_in ha hb hm
theorem ltT3 (ha : PE3 X a ta) (hb : PE3 X b tb) : PT3 X (.Compare a [.Lt] [b] pos) (wTest (wBin ltF ta tb)) := cmpT3 op_lt o3_cmp ha hb (nomark _)
theorem gtT3 (ha : PE3 X a ta) (hb : PE3 X b tb) : PT3 X (.Compare a [.Gt] [b] pos) (wTest (wBin gtF ta tb)) := cmpT3 op_gt o3_cmp ha hb (nomark _)
theorem geT3 (ha : PE3 X a ta) (hb : PE3 X b tb) : PT3 X (.Compare a [.GtE] [b] pos) (wTest (wBin geF ta tb)) := cmpT3 op_ge o3_cmp ha hb (nomark _)
theorem eqST3 (ha : PE3 X a ta) (hb : PE3 X b tb) : PT3 X (.Compare a [.Eq] [b] pos) (wTest (wBin eqSF ta tb)) := cmpT3 op_eq o3_eqS ha hb (nomark _)
theorem neST3 (ha : PE3 X a ta) (hb : PE3 X b tb) : PT3 X (.Compare a [.NotEq] [b] pos) (wTest (wBin neSF ta tb)) := cmpT3 op_ne o3_neS ha hb (nomark _)
theorem inT3 (ha : PE3 X a ta) (hb : PE3 X b tb) (hm : behindInMarks .In b = false := by with_unfolding_all rfl) : PT3 X (.Compare a [.In] [b] pos) (wTest (wBin (inF false) ta tb)) := cmpT3 op_in_seq o3_in ha hb hm
theorem ninT3 (ha : PE3 X a ta) (hb : PE3 X b tb) (hm : behindInMarks .NotIn b = false := by with_unfolding_all rfl) : PT3 X (.Compare a [.NotIn] [b] pos) (wTest (wBin (inF true) ta tb)) := cmpT3 op_notIn_seq o3_in ha hb hm
end
noncomputable def isD : D → Bool
  | .non => true
  | _ => false
noncomputable def isNF : F2 := fun x y Q => isD y = true ∧ Q (.bl (isD x))
theorem o3_isN {K : PySem.W.Frag} : O3 K (fun x y H Q => y = .non ∧ Q (.bl (decide (x = .non))) H) isNF := by
  intro S H x y dx dy Q3 Q fc hx hy hf k
  obtain ⟨h1, h2⟩ := hf
  cases dy <;> try exact absurd (show false = true from h1) Bool.false_ne_true
  simp only [Dn] at hy
  refine ⟨hy, k _ H _ (Same.refl H) ?_ h2⟩
  cases dx <;> simp only [Dn] at hx ⊢
  all_goals first
    | (subst hx; simp [isD])
    | (obtain ⟨a, xs, rfl, _⟩ := hx; simp [isD])
    | (obtain ⟨a, _, xs, rfl, _⟩ := hx; simp [isD])
    | (obtain ⟨a, rfl, _⟩ := hx; simp [isD])
theorem isNT3 {a b : Expr} {pos : Pos} {ta tb : WE} (ha : PE3 X a ta) (hb : PE3 X b tb) : PT3 X (.Compare a [.Is] [b] pos) (wTest (wBin isNF ta tb)) := cmpT3 op_isN o3_isN ha hb (nomark _)
theorem isN3 {a b : Expr} {pos : Pos} {ta tb : WE} (ha : PE3 X a ta) (hb : PE3 X b tb) : PE3 X (.Compare a [.Is] [b] pos) (wBin isNF ta tb) := cmp3 op_isN o3_isN ha hb (nomark _)
noncomputable def wNotT (t : WT) : WT := fun ρ Q => t ρ fun b => Q (!b)
noncomputable def wAndT (t u : WT) : WT := fun ρ Q => t ρ fun b => if b = true then u ρ Q else Q false
noncomputable def wOrT (t u : WT) : WT := fun ρ Q => t ρ fun b => if b = true then Q true else u ρ Q
noncomputable def PW3 (X : Cx) (e : Expr) (t : WT) : Prop := PW X e (liftT X.K t)
theorem impW {e : Expr} {t t' : TT} (h : PW X e t) (f : ∀ σ H Q, t' σ H Q → t σ H Q) : PW X e t' := fun wh pins s σ H Q I q => h wh pins s σ H Q I (f σ H Q q)
section
variable {a b : Expr} {rest : List Expr} {pos : Pos} {ta tb : WT}
theorem PW3.pt {e : Expr} {t : WT} (h : PW3 X e t) : PT3 X e t := PW.pt h
theorem notT3 (ha : PT3 X a ta) : PT3 X (.UnaryOp .Not a pos) (wNotT ta) := impT (pt_not ha) fun σ H Q hq12 => by obtain ⟨S, ρ, Q3, fc, sl, ht, k⟩ := hq12; exact ⟨S, ρ, _, fc, sl, ht, fun b H1 s1 q1 => k (!b) H1 s1 q1⟩
theorem and1 (ha : PT3 X a ta) : PW3 X (.BoolOp .And [a] pos) ta := pw_and1 ha
theorem or1 (ha : PT3 X a ta) : PW3 X (.BoolOp .Or [a] pos) ta := pw_or1 ha
theorem andT3 (ha : PT3 X a ta) (hb : PW3 X (.BoolOp .And (b :: rest) pos) tb) : PW3 X (.BoolOp .And (a :: b :: rest) pos) (wAndT ta tb) := impW (pw_and ha hb) fun σ H Q hq13 => by
  obtain ⟨S, ρ, Q3, fc, sl, ht, k⟩ := hq13
  refine ⟨S, ρ, _, fc, sl, ht, fun c H1 s1 q1 => ?_⟩
  cases c with
  | true => rw [if_pos rfl] at q1 ⊢; exact ⟨S, ρ, Q3, fc_same fc s1, Sl.fits (.same s1) sl, q1, fun b' H2 s2 q2 => k b' H2 (s1.trans s2) q2⟩
  | false => rw [if_neg Bool.false_ne_true] at q1 ⊢; exact k false H1 s1 q1
theorem orT3 (ha : PT3 X a ta) (hb : PW3 X (.BoolOp .Or (b :: rest) pos) tb) : PW3 X (.BoolOp .Or (a :: b :: rest) pos) (wOrT ta tb) := impW (pw_or ha hb) fun σ H Q hq14 => by
  obtain ⟨S, ρ, Q3, fc, sl, ht, k⟩ := hq14
  refine ⟨S, ρ, _, fc, sl, ht, fun c H1 s1 q1 => ?_⟩
  cases c with
  | false => rw [if_neg Bool.false_ne_true] at q1 ⊢; exact ⟨S, ρ, Q3, fc_same fc s1, Sl.fits (.same s1) sl, q1, fun b' H2 s2 q2 => k b' H2 (s1.trans s2) q2⟩
  | true => rw [if_pos rfl] at q1 ⊢; exact k true H1 s1 q1
end
noncomputable def wAnd (ta tb : WE) : WE := fun ρ Q => ta ρ fun x => match x with
  | .bl true => tb ρ Q
  | .bl false => Q (.bl false)
  | _ => False
noncomputable def wNot (ta : WE) : WE := fun ρ Q => ta ρ fun x => match x with
  | .bl b => Q (.bl (!b))
  | _ => False
section
variable {a b c : Expr} {rest : List Expr} {pos : Pos} {ta tb : WE} {tc : WT}
theorem one3 {op} (ha : PE3 X a ta) : PE3 X (.BoolOp op [a] pos) ta := pe_one ha
theorem and3 (ha : PE3 X a ta) (hb : PE3 X (.BoolOp .And (b :: rest) pos) tb) : PE3 X (.BoolOp .And (a :: b :: rest) pos) (wAnd ta tb) := imp (pe_and ha hb) fun σ H Q hq15 => by
  obtain ⟨S, ρ, Q3, fc, sl, ht, k⟩ := hq15
  refine ⟨S, ρ, _, fc, sl, ht, fun v H1 d s1 d1 q1 => ?_⟩
  cases d with
  | bl c =>
    simp only [Dn] at d1
    refine ⟨c, d1, ?_⟩
    cases c with
    | true => rw [if_pos rfl]; exact ⟨S, ρ, Q3, fc_same fc s1, Sl.fits (.same s1) sl, q1, fun v' H2 d' s2 d2 q2 => k v' H2 d' (s1.trans s2) d2 q2⟩
    | false => rw [if_neg Bool.false_ne_true]; exact k _ H1 (.bl false) s1 (by simp only [Dn]) q1
  | _ => exact q1.elim
theorem not3 (ha : PE3 X a ta) : PE3 X (.UnaryOp .Not a pos) (wNot ta) := imp (pe_not ha) fun σ H Q hq16 => by
  obtain ⟨S, ρ, Q3, fc, sl, ht, k⟩ := hq16
  refine ⟨S, ρ, _, fc, sl, ht, fun v H1 d s1 d1 q1 => ?_⟩
  cases d with
  | bl c => simp only [Dn] at d1; exact ⟨c, d1, k _ H1 (.bl (!c)) s1 (by simp only [Dn]) q1⟩
  | _ => exact q1.elim
noncomputable def wNeg (ta : WE) : WE := fun ρ Q => ta ρ fun x => match x with
  | .int i => Q (.int (-i))
  | _ => False
theorem neg3 (ha : PE3 X a ta) : PE3 X (.UnaryOp .USub a pos) (wNeg ta) := imp (pe_un un_neg ha) fun σ H Q hq17 => by
  obtain ⟨S, ρ, Q3, fc, sl, ht, k⟩ := hq17
  refine ⟨S, ρ, _, fc, sl, ht, fun v H1 d s1 d1 q1 => ?_⟩
  cases d with
  | int i => simp only [Dn] at d1; exact ⟨i, d1, k _ H1 (.int (-i)) s1 (by simp only [Dn]) q1⟩
  | _ => exact q1.elim
end
noncomputable def wChain (f g : F2) (ta tb tc : WE) : WE := fun ρ Q => ta ρ fun x => tb ρ fun y => f x y fun z => match z with
  | .bl true => tc ρ fun u => g y u Q
  | .bl false => Q (.bl false)
  | _ => False
theorem lift_chain {K : PySem.W.Frag} {r r' : R2} {f g : F2} {ta tb tc : WE} {σ : L2.St} {H : Hp} {Q : VK} (h1 : O3 K r f) (h2 : O3 K r' g) (h : lift K (wChain f g ta tb tc) σ H Q) : tChain r r' (lift K ta) (lift K tb) (lift K tc) σ H Q := by
  obtain ⟨S, ρ, Q3, fc, sl, ht, k⟩ := h
  refine ⟨S, ρ, _, fc, sl, ht, fun v H1 d s1 d1 q1 => ?_⟩
  refine ⟨S, ρ, _, fc_same fc s1, Sl.fits (.same s1) sl, q1, fun u H2 e s2 e1 q2 => ?_⟩
  refine h1 S H2 v u d e _ _ (fc_same fc (s1.trans s2)) (Dn.fits (.same s2) _ _ d1) e1 q2 fun z H3 dz s3 dz1 q3 => ?_
  cases dz with
  | bl c =>
    simp only [Dn] at dz1
    refine ⟨c, dz1, ?_⟩
    cases c with
    | false => rw [if_neg Bool.false_ne_true]; exact k _ H3 (.bl false) ((s1.trans s2).trans s3) (by simp only [Dn]) q3
    | true =>
      rw [if_pos rfl]
      refine ⟨S, ρ, _, fc_same fc ((s1.trans s2).trans s3), Sl.fits (.same ((s1.trans s2).trans s3)) sl, q3, fun w' H4 dw s4 dw1 q4 => ?_⟩
      exact h2 S H4 u w' e dw Q3 Q (fc_same fc (((s1.trans s2).trans s3).trans s4)) (Dn.fits (.same (s3.trans s4)) _ _ e1) dw1 q4 fun v' H5 d' s5 d5 q5 => k v' H5 d' ((((s1.trans s2).trans s3).trans s4).trans s5) d5 q5
  | _ => exact q3.elim
theorem chain3 {a b c : Expr} {op op' : CmpOp} {pos : Pos} {r r' : R2} {f g : F2} {ta tb tc : WE} (ho : OpR X (compareOp op) r) (ho' : OpR X (compareOp op') r') (h1 : O3 X.K r f) (h2 : O3 X.K r' g) (ha : PE3 X a ta) (hb : PE3 X b tb) (hc : PE3 X c tc)
    (hm : lastMarks [op, op'] [b, c] = false := by with_unfolding_all rfl) : PE3 X (.Compare a [op, op'] [b, c] pos) (wChain f g ta tb tc) := imp (pe_chain ho ho' ha hb hc hm) fun _ _ _ => lift_chain h1 h2
noncomputable def ixF : F2
  | .lst ds, .int i, Q => (match atI ds i with | some d => Q d | none => False)
  | .tup ds, .int i, Q => (match atI ds i with | some d => Q d | none => False)
  | .scr ns, .int i, Q => (match atI ns i with | some n => Q (.int n) | none => False)
  | _, _, _ => False
theorem Dns.at {K : PySem.W.Frag} {S : Addr → Prop} {H : Hp} {ds : List D} {xs : List V} {i : Int} {d : D} (h : Dns K S H ds xs) (e : atI ds i = some d) : ∃ v, atI xs i = some v ∧ Dn K S H d v := by
  unfold atI at e ⊢
  rw [← h.len]
  cases q : ixN ds.length i with
  | none => rw [q] at e; cases e
  | some j =>
    rw [q] at e
    obtain ⟨v, e1, dn⟩ := h.get (i := j) (d := d) e
    exact ⟨v, e1, dn⟩
theorem atI_map {α β : Type} (f : α → β) (xs : List α) (i : Int) : atI (xs.map f) i = (atI xs i).map f := by
  unfold atI
  rw [List.length_map]
  cases ixN xs.length i with
  | none => rfl
  | some j => simp
theorem o3_ix {K : PySem.W.Frag} : O3 K (fun x y H Q => rIxL K x y H Q ∨ rIxT K x y H Q) ixF := by
  intro S H x y dx dy Q3 Q fc hx hy hf k
  cases dx with
  | lst ds =>
    cases dy with
    | int i =>
      simp only [Dn] at hx hy
      obtain ⟨a, xs, rfl, ha, sa, da⟩ := hx
      have hf : (match atI ds i with | some d => Q3 d | none => False) := hf
      cases e : atI ds i with
      | none => rw [e] at hf; exact hf.elim
      | some d =>
        rw [e] at hf
        obtain ⟨v, e1, dv⟩ := da.at e
        exact .inl ⟨a, xs, i, v, rfl, hy, SqL.of ha, e1, k v H d (Same.refl H) dv hf⟩
    | _ => exact hf.elim
  | tup ds =>
    cases dy with
    | int i =>
      simp only [Dn] at hx hy
      obtain ⟨a, xs, rfl, ha, da⟩ := hx
      have hf : (match atI ds i with | some d => Q3 d | none => False) := hf
      cases e : atI ds i with
      | none => rw [e] at hf; exact hf.elim
      | some d =>
        rw [e] at hf
        obtain ⟨v, e1, dv⟩ := da.at e
        exact .inr ⟨a, xs, i, v, rfl, hy, (SqT.of ha), e1, k v H d (Same.refl H) dv hf⟩
    | _ => exact hf.elim
  | scr ns =>
    cases dy with
    | int i =>
      simp only [Dn] at hx hy
      obtain ⟨a, rfl, ha⟩ := hx
      have hf : (match atI ns i with | some n => Q3 (.int n) | none => False) := hf
      cases e : atI ns i with
      | none => rw [e] at hf; exact hf.elim
      | some n =>
        rw [e] at hf
        exact .inl ⟨a, _, i, .int n, rfl, hy, ha.sq, by rw [atI_map, e]; rfl, k _ H (.int n) (Same.refl H) (by simp only [Dn]) hf⟩
    | _ => exact hf.elim
  | _ => cases dy <;> exact hf.elim
theorem ix3 {a b : Expr} {pos : Pos} {ta tb : WE} (ha : PE3 X a ta) (hb : PE3 X b tb) (hs : PlainIx b := by intro _ _; rfl) : PE3 X (.Subscript a b pos) (wBin ixF ta tb) :=
  imp (pe_ix (ix_list.or ix_tup) ha hb hs) fun _ _ _ => lift_bin o3_ix
noncomputable abbrev F1 := List D → (D → Prop) → Prop
noncomputable def wCB (f : F1) (t : WA) : WE := fun ρ Q => t ρ fun ds => f ds Q
noncomputable def C3 (K : PySem.W.Frag) (r : List V → Hp → VK → Prop) (f : F1) : Prop := ∀ (S : Addr → Prop) (H : Hp) (xs : List V) (ds : List D) (Q3 : D → Prop) (Q : VK), (∀ a, H a = none → S a) → Dns K S H ds xs → f ds Q3 →
  (∀ v H' d, Same H H' → Dn K S H' d v → Q3 d → Q v H') → r xs H Q
noncomputable def C3F (K : PySem.W.Frag) (r : List V → Hp → VK → Prop) (f : F1) : Prop := ∀ (S : Addr → Prop) (H : Hp) (xs : List V) (ds : List D) (Q3 : D → Prop) (Q : VK), (∀ a, H a = none → S a) → Dns K S H ds xs → f ds Q3 →
  (∀ p ys H' es, H p = none → H' p = some (.lst ys) → Same H H' → Dns K (fun a => S a ∧ a ≠ p) H' es ys → Q3 (.lst es) → Q (.ref p) H') → r xs H Q
theorem lift_cb {K : PySem.W.Frag} {r : List V → Hp → VK → Prop} {f : F1} {t : WA} {σ : L2.St} {H : Hp} {Q : VK} (h3 : C3 K r f) (h : lift K (wCB f t) σ H Q) : tCB r (liftA K t) σ H Q := by
  obtain ⟨S, ρ, Q3, fc, sl, ht, k⟩ := h
  refine ⟨S, ρ, _, fc, sl, ht, fun vs H1 ds s1 d1 q1 => ?_⟩
  exact h3 S H1 vs ds Q3 Q (fc_same fc s1) d1 q1 fun v H' d s' d' q' => k v H' d (s1.trans s') d' q'
theorem lift_cbF {K : PySem.W.Frag} {r : List V → Hp → VK → Prop} {f : F1} {t : WA} {σ : L2.St} {H : Hp} {Q : VK} (h3 : C3F K r f) (h : liftF K (wCB f t) σ H Q) : tCB r (liftA K t) σ H Q := by
  obtain ⟨S, ρ, Q3, fc, sl, ht, k⟩ := h
  refine ⟨S, ρ, _, fc, sl, ht, fun vs H1 ds s1 d1 q1 => ?_⟩
  exact h3 S H1 vs ds Q3 Q (fc_same fc s1) d1 q1 fun p ys H' es hp hp' s' d' q' => k p ys H' es (s1.free hp) hp' (s1.trans s') d' q'
theorem callB3 {x : Str} {p pos : Pos} {e : Expr} {es : List Expr} {t : WA} {id : String} {r : List V → Hp → VK → Prop} {f : F1} (hc : CallR X (.builtin id) r) (h3 : C3 X.K r f) (hv : bootBuiltins x = some (.builtin id)) (hg : Gl X x) (hm : X.mg x = none) (ha : PA3 X (e :: es) t) (hn : x ≠ "__name__" := by decide) (hdb : (x == ("__debug__" : Str)) = false := by decide)
    (he : starEach (e :: es) X.env = (false, eval e X.env) :: starEach es X.env := by rfl) (hpl : (backTo pos (starEach es X.env)).any (·.1) = false := by rfl) : PE3 X (.Call (.Name x p) (e :: es) [] pos) (wCB f t) :=
  imp (pe_callB hc hg hm hv ha hn hdb he hpl) fun _ _ _ => lift_cb h3
theorem callBF3 {x : Str} {p pos : Pos} {e : Expr} {es : List Expr} {t : WA} {id : String} {r : List V → Hp → VK → Prop} {f : F1} (hc : CallR X (.builtin id) r) (h3 : C3F X.K r f) (hv : bootBuiltins x = some (.builtin id)) (hg : Gl X x) (hm : X.mg x = none) (ha : PA3 X (e :: es) t) (hn : x ≠ "__name__" := by decide) (hdb : (x == ("__debug__" : Str)) = false := by decide)
    (he : starEach (e :: es) X.env = (false, eval e X.env) :: starEach es X.env := by rfl) (hpl : (backTo pos (starEach es X.env)).any (·.1) = false := by rfl) : PF3 X (.Call (.Name x p) (e :: es) [] pos) (wCB f t) :=
  imp (pe_callB hc hg hm hv ha hn hdb he hpl) fun _ _ _ => lift_cbF h3
theorem callTy3 {x : Str} {p pos : Pos} {e : Expr} {es : List Expr} {t : WA} {T : String} {r : List V → Hp → VK → Prop} {f : F1} (hc : CallR X (.type T) r) (h3 : C3 X.K r f) (hv : bootBuiltins x = some (.type T)) (hg : Gl X x) (hm : X.mg x = none) (ha : PA3 X (e :: es) t) (hn : x ≠ "__name__" := by decide) (hdb : (x == ("__debug__" : Str)) = false := by decide)
    (he : starEach (e :: es) X.env = (false, eval e X.env) :: starEach es X.env := by rfl) (hpl : (backTo pos (starEach es X.env)).any (·.1) = false := by rfl) : PE3 X (.Call (.Name x p) (e :: es) [] pos) (wCB f t) :=
  imp (pe_callTy hc hg hm hv ha hn hdb he hpl) fun _ _ _ => lift_cb h3
theorem callTyF3 {x : Str} {p pos : Pos} {e : Expr} {es : List Expr} {t : WA} {T : String} {r : List V → Hp → VK → Prop} {f : F1} (hc : CallR X (.type T) r) (h3 : C3F X.K r f) (hv : bootBuiltins x = some (.type T)) (hg : Gl X x) (hm : X.mg x = none) (ha : PA3 X (e :: es) t) (hn : x ≠ "__name__" := by decide) (hdb : (x == ("__debug__" : Str)) = false := by decide)
    (he : starEach (e :: es) X.env = (false, eval e X.env) :: starEach es X.env := by rfl) (hpl : (backTo pos (starEach es X.env)).any (·.1) = false := by rfl) : PF3 X (.Call (.Name x p) (e :: es) [] pos) (wCB f t) :=
  imp (pe_callTy hc hg hm hv ha hn hdb he hpl) fun _ _ _ => lift_cbF h3
noncomputable def lenF : F1
  | [.lst ds], Q => Q (.int ds.length)
  | [.tup ds], Q => Q (.int ds.length)
  | [.scr ns], Q => Q (.int ns.length)
  | _, _ => False
theorem c3_len {K : PySem.W.Frag} : C3 K (fun xs H Q => ∃ p ys, xs = [.ref p] ∧ (SqL K H p ys ∨ SqT K H p ys) ∧ Q (.int ys.length) H) lenF := by
  intro S H xs ds Q3 Q fc hd hf k
  match ds, hf with
  | [.lst es], hf =>
    obtain ⟨v, r, rfl, h1, h2⟩ := hd.uncons
    simp only [Dns] at h2
    subst h2
    simp only [Dn] at h1
    obtain ⟨a, ys, rfl, ha, sa, da⟩ := h1
    exact ⟨a, ys, rfl, .inl (SqL.of ha), k _ H _ (Same.refl H) (by simp only [Dn]; rw [da.len]) hf⟩
  | [.tup es], hf =>
    obtain ⟨v, r, rfl, h1, h2⟩ := hd.uncons
    simp only [Dns] at h2
    subst h2
    simp only [Dn] at h1
    obtain ⟨a, ys, rfl, ha, da⟩ := h1
    exact ⟨a, ys, rfl, .inr (SqT.of ha), k _ H _ (Same.refl H) (by simp only [Dn]; rw [da.len]) hf⟩
  | [.scr ns], hf =>
    obtain ⟨v, r, rfl, h1, h2⟩ := hd.uncons
    simp only [Dns] at h2
    subst h2
    simp only [Dn] at h1
    obtain ⟨a, rfl, ha⟩ := h1
    exact ⟨a, _, rfl, .inl ha.sq, k _ H _ (Same.refl H) (by simp only [Dn]; rw [List.length_map]) hf⟩
theorem len3 {p pos : Pos} {e : Expr} {t : WA} (hm : X.mg "len" = none) (ha : PA3 X [e] t) (hg : Gl X "len" := by rfl)
    (he : starEach [e] X.env = (false, eval e X.env) :: starEach [] X.env := by rfl) : PE3 X (.Call (.Name "len" p) [e] [] pos) (wCB lenF t) := callB3 call_len_seq c3_len PySem.boot_len hg hm ha (by decide) (by decide) he (by rfl)
noncomputable def tupleF : F1
  | [.lst ds], Q => Q (.tup ds)
  | [.tup ds], Q => Q (.tup ds)
  | _, _ => False
theorem c3_tuple {K : PySem.W.Frag} : C3 K (fun xs H Q => ∃ p ys, xs = [.ref p] ∧ ((SqL K H p ys ∧ ∀ l, H l = none → Q (.ref l) (upd H l (.tup ys))) ∨ (SqT K H p ys ∧ Q (.ref p) H))) tupleF := by
  intro S H xs ds Q3 Q fc hd hf k
  match ds, hf with
  | [.lst es], hf =>
    obtain ⟨v, r, rfl, h1, h2⟩ := hd.uncons
    simp only [Dns] at h2
    subst h2
    simp only [Dn] at h1
    obtain ⟨a, ys, rfl, ha, sa, da⟩ := h1
    refine ⟨a, ys, rfl, .inl ⟨SqL.of ha, fun l hl => k _ _ _ (same_upd hl) ?_ hf⟩⟩
    simp only [Dn]
    exact ⟨l, ys, rfl, upd_same, Dns.fits (.same (same_upd hl)) _ _ da⟩
  | [.tup es], hf =>
    obtain ⟨v, r, rfl, h1, h2⟩ := hd.uncons
    simp only [Dns] at h2
    subst h2
    have h1' := h1
    simp only [Dn] at h1
    obtain ⟨a, ys, rfl, ha, da⟩ := h1
    exact ⟨a, ys, rfl, .inr ⟨(SqT.of ha), k _ H _ (Same.refl H) h1' hf⟩⟩
theorem tuple3 {p pos : Pos} {e : Expr} {t : WA} (hm : X.mg "tuple" = none) (hv : bootBuiltins "tuple" = some (.type "tuple")) (ha : PA3 X [e] t) (hg : Gl X "tuple" := by rfl)
    (he : starEach [e] X.env = (false, eval e X.env) :: starEach [] X.env := by rfl) : PE3 X (.Call (.Name "tuple" p) [e] [] pos) (wCB tupleF t) := callTy3 call_tuple_of c3_tuple hv hg hm ha (by decide) (by decide) he (by rfl)
noncomputable def listF : F1
  | [.lst ds], Q => Q (.lst ds)
  | [.tup ds], Q => Q (.lst ds)
  | _, _ => False
theorem c3_list {K : PySem.W.Frag} : C3F K (fun xs H Q => ∃ p ys, xs = [.ref p] ∧ (SqL K H p ys ∨ SqT K H p ys) ∧ ∀ l, H l = none → Q (.ref l) (upd H l (.lst ys))) listF := by
  intro S H xs ds Q3 Q fc hd hf k
  match ds, hf with
  | [.lst es], hf =>
    obtain ⟨v, r, rfl, h1, h2⟩ := hd.uncons
    simp only [Dns] at h2
    subst h2
    simp only [Dn] at h1
    obtain ⟨a, ys, rfl, ha, sa, da⟩ := h1
    exact ⟨a, ys, rfl, .inl (SqL.of ha), fun l hl => k l ys _ es hl upd_same (same_upd hl) (Dns.fits ((Fits.fresh hl).trans (.same (same_upd hl))) _ _ da) hf⟩
  | [.tup es], hf =>
    obtain ⟨v, r, rfl, h1, h2⟩ := hd.uncons
    simp only [Dns] at h2
    subst h2
    simp only [Dn] at h1
    obtain ⟨a, ys, rfl, ha, da⟩ := h1
    exact ⟨a, ys, rfl, .inr (SqT.of ha), fun l hl => k l ys _ es hl upd_same (same_upd hl) (Dns.fits ((Fits.fresh hl).trans (.same (same_upd hl))) _ _ da) hf⟩
theorem list3 {p pos : Pos} {e : Expr} {t : WA} (hm : X.mg "list" = none) (hv : bootBuiltins "list" = some (.type "list")) (ha : PA3 X [e] t) (hg : Gl X "list" := by rfl)
    (he : starEach [e] X.env = (false, eval e X.env) :: starEach [] X.env := by rfl) : PF3 X (.Call (.Name "list" p) [e] [] pos) (wCB listF t) := callTyF3 call_list_of c3_list hv hg hm ha (by decide) (by decide) he (by rfl)
noncomputable abbrev Spec := List D → (D → Prop) → Prop
noncomputable def sp3 (K : PySem.W.Frag) (R : Spec) : Sp := fun vs H Q _ => ∃ (S : Addr → Prop) (ds : List D) (Q3 : D → Prop), (∀ a, H a = none → S a) ∧ Dns K S H ds vs ∧ R ds Q3 ∧ ∀ v H' d, Same H H' → Dn K S H' d v → Q3 d → Q v H'
theorem call3 {k : Nat} {f : Addr} {fd : FuncData} {ps : List Str} {R : Spec} {x : Str} {p pos : Pos} {e : Expr} {es : List Expr} {t : WA} (F : FnOk X.prog X.w X.K X.mg X.base CX0 k f fd ps (sp3 X.K R)) (hr : Room k X.A) (hm : X.mg x = some (.ref f)) (hk : PySem.W.keepIn X.K (.ref f) = true) (hb : Binds X.K fd ps [])
    (ha : PA3 X (e :: es) t) (hg : Gl X x := by rfl) (hdb : (x == ("__debug__" : Str)) = false := by decide) (he : starEach (e :: es) X.env = (false, eval e X.env) :: starEach es X.env := by rfl) (hpl : (backTo pos (starEach es X.env)).any (·.1) = false := by rfl) :
    PE3 X (.Call (.Name x p) (e :: es) [] pos) (wCB R t) := imp (pe_call F hr hg hm hk hb .nil pass0 ha hdb he hpl) fun σ H Q hq18 => by
  obtain ⟨S, ρ, Q3, fc, sl, ht, k⟩ := hq18
  refine ⟨S, ρ, _, fc, sl, ht, fun vs H1 ds s1 d1 q1 => ?_⟩
  show sp3 X.K R (vs ++ []) H1 Q E0
  rw [List.append_nil]
  exact ⟨S, ds, Q3, fc_same fc s1, d1, q1, fun v H' d s' d' q' => k v H' d (s1.trans s') d' q'⟩
end
end L3
end
section
set_option Elab.async false
set_option linter.all false
set_option maxRecDepth 100000
set_option maxHeartbeats 3999999
namespace L3
open PySem PySem.Spec PyProof.Rows L2
structure DE where
  nx : SEnv → Prop
  rt : D → Prop
  bk : SEnv → Prop := fun _ => False
  ct : SEnv → Prop := fun _ => False
  ex : Str → Prop := fun _ => False
noncomputable abbrev WS := DE → SEnv → Prop
structure Thrown (X : Cx) (pins : List (Addr × Obj)) (H : Hp) (s : Shared) (e : Addr) (cls a0 : Value) (P : List Addr) : Prop where
  mem : e ∈ P
  free : ∀ q ∈ P, H q = none
  new : ∀ q ∈ P, X.s₀.heap.get? q = none
  fld : ∀ q ∈ P, ∃ o vs, s.heap.get? q = some o ∧ o.data = .fields vs
  pin : ∀ q ∈ P, ∀ p ∈ X.pn ++ pins, p.1 ≠ q
  tr : (∃ oe vs, s.heap.get? e = some oe ∧ oe.cls = cls ∧ oe.data = .fields vs ∧ vs[1]? = some .none ∧ vs[0]? = some a0) ∨
    (∃ oe vs T oT ts, s.heap.get? e = some oe ∧ (oe.cls = cls ∧ vs[0]? = some a0) ∧ oe.data = .fields vs ∧ vs[1]? = some (.ref T) ∧ T ∈ P ∧ T ≠ e ∧ s.heap.get? T = some oT ∧ oT.data = .fields ts ∧ ts[3]? = some .none)
noncomputable def XC (X : Cx) (c : Str) (H : Hp) : Prop := ∃ C : Addr, X.mg c = some (.ref C) ∧ ∀ (pins : List (Addr × Obj)) (σ : L2.St) (s : Shared) (e : Addr) (a0 : Value) (P : List Addr), Inv X pins σ H s → Thrown X pins H s e (.ref C) a0 P → X.xe (.ref e) s
structure EndsOk (K : PySem.W.Frag) (xc : Str → Hp → Prop) (n : Nat) (H₀ : Hp) (S : Addr → Prop) (G : List (D × V)) (E : DE) (B : Ends) : Prop where
  nx : ∀ w σ H ρ, σ.length = n → ST K H₀ S w σ H ρ G → E.nx ρ → B.nx σ H
  rt : ∀ v H d, Same H₀ H → Dn K S H d v → E.rt d → B.rt v H
  bk : ∀ w σ H ρ, σ.length = n → ST K H₀ S w σ H ρ G → E.bk ρ → B.bk σ H
  ct : ∀ w σ H ρ, σ.length = n → ST K H₀ S w σ H ρ G → E.ct ρ → B.ct σ H
  ex : ∀ c H, Same H₀ H → E.ex c → xc c H
noncomputable def liftS (K : PySem.W.Frag) (xc : Str → Hp → Prop) (n : Nat) (t : WS) : TS := fun B σ H => ∃ (H₀ : Hp) (S : Addr → Prop) (w : Nat → Addr) (ρ : SEnv) (G : List (D × V)) (E : DE), σ.length = n ∧ ST K H₀ S w σ H ρ G ∧ t E ρ ∧ EndsOk K xc n H₀ S G E B
noncomputable def PS3 (X : Cx) (st : Stmt) (t : WS) : Prop := PS X st (liftS X.K (XC X) X.N.length t)
noncomputable def PSs3 (X : Cx) (st : List Stmt) (t : WS) : Prop := PSs X st (liftS X.K (XC X) X.N.length t)
section
variable {X : Cx}
theorem impS {e : Stmt} {t t' : TS} (h : PS X e t) (f : ∀ B σ H, t' B σ H → t B σ H) : PS X e t' := fun pins s σ H B I q => h pins s σ H B I (f B σ H q)
theorem impSs {e : List Stmt} {t t' : TS} (h : PSs X e t) (f : ∀ B σ H, t' B σ H → t B σ H) : PSs X e t' := fun pins s σ H B I q => h pins s σ H B I (f B σ H q)
noncomputable def wNext : WS := fun E ρ => E.nx ρ
noncomputable def wSeq (t u : WS) : WS := fun E ρ => t { E with nx := u E } ρ
theorem end3 : PSs3 X [] wNext := impSs pss_nil fun B σ H hq19 => by obtain ⟨H₀, S, w, ρ, G, E, hl, st, ht, ok⟩ := hq19; exact ok.nx w σ H ρ hl st ht
theorem seq3 {st : Stmt} {rest : List Stmt} {t u : WS} (h1 : PS3 X st t) (h2 : PSs3 X rest u) : PSs3 X (st :: rest) (wSeq t u) := impSs (pss_cons h1 h2) fun B σ H hq20 => by
 obtain ⟨H₀, S, w, ρ, G, E, hl, sT, ht, ok⟩ := hq20
 exact ⟨H₀, S, w, ρ, G, { E with nx := u E }, hl, sT, ht, ⟨fun w' σ' H' ρ' hl' st' q => ⟨H₀, S, w', ρ', G, E, hl', st', q, ok⟩, ok.rt, ok.bk, ok.ct, ok.ex⟩⟩
theorem last3 {st : Stmt} {t : WS} (h1 : PS3 X st t) : PSs3 X [st] t := impSs (pss_one h1) fun _ _ _ h => h
noncomputable def wRet (t : WE) : WS := fun E ρ => t (vAll ρ) E.rt
theorem ret3 {e : Expr} {t : WE} {pos : Pos} (h : PE3 X e t) : PS3 X (.Return (some e) pos) (wRet t) := impS (ps_ret h) fun B σ H hq21 => by
 obtain ⟨H₀, S, w, ρ, G, E, hl, st, ht, ok⟩ := hq21
 exact ⟨S, vAll ρ, E.rt, st.fcH, st.all, ht, fun v H' d s' d' q' => ok.rt v H' d (st.sm.trans s') d' q'⟩
noncomputable def wIfS (c : WT) (t u : WS) : WS := fun E ρ => c (vAll ρ) fun b => if b = true then t E ρ else u E ρ
theorem ifS3 {c : Expr} {a b : List Stmt} {pos : Pos} {tc : WT} {t u : WS} (hc : PT3 X c tc) (ha : PSs3 X a t) (hb : PSs3 X b u) : PS3 X (.If c a b pos) (wIfS tc t u) := impS (ps_if hc ha hb) fun B σ H hq22 => by
  obtain ⟨H₀, S, w, ρ, G, E, hl, st, ht, ok⟩ := hq22
  refine ⟨S, vAll ρ, _, st.fcH, st.all, ht, fun d H1 s1 q1 => ?_⟩
  cases d with
  | true => rw [if_pos rfl] at q1 ⊢; exact ⟨H₀, S, w, ρ, G, E, hl, st.same s1, q1, ok⟩
  | false => rw [if_neg Bool.false_ne_true] at q1 ⊢; exact ⟨H₀, S, w, ρ, G, E, hl, st.same s1, q1, ok⟩
noncomputable def wSet (i : Nat) (t : WE) : WS := fun E ρ => t (vRd ρ) fun d => E.nx (ρ.set i (.ro d))
noncomputable def wOwn (i : Nat) (t : WE) : WS := fun E ρ => t (vRd ρ) fun d => E.nx (ρ.set i (.ow d))
section
variable {i : Nat} {x : Str} {e : Expr} {t : WE} {pos pos' : Pos}
theorem ix_lt {N : List Str} {i : Nat} {x : Str} (h : N[i]? = some x) : i < N.length := (List.getElem?_eq_some_iff.mp h).1
theorem set3 (hN : X.N.Nodup) (he : PE3 X e t) (hi : X.N[i]? = some x := by rfl) (hx : Loc X.env.scope x := by first | exact .inl rfl | exact .inr rfl) (hs : swapsWith e (some (.Name x pos')) pos.line X.env = pure false := by rfl) (hf : X.fn x = true ∨ X.env.scope.names.lookup x = some .local := by first | exact .inl rfl | exact .inr rfl) :
    PS3 X (.Assign [.Name x pos'] e pos) (wSet i t) := impS (ps_set hN hi hx he hs hf) fun B σ H hq23 => by
 obtain ⟨H₀, S, w, ρ, G, E, hl, st, ht, ok⟩ := hq23
 exact ⟨_, vRd ρ, _, st.fcO, st.rd, ht, fun v H' d s' d' q' => ok.nx w _ H' _ (by rw [List.length_set]; exact hl) ((st.same s').set_ro (by rw [hl]; exact ix_lt hi) d') q'⟩
theorem own3 (hN : X.N.Nodup) (he : PF3 X e t) (hi : X.N[i]? = some x := by rfl) (hx : Loc X.env.scope x := by first | exact .inl rfl | exact .inr rfl) (hs : swapsWith e (some (.Name x pos')) pos.line X.env = pure false := by rfl) (hf : X.fn x = true ∨ X.env.scope.names.lookup x = some .local := by first | exact .inl rfl | exact .inr rfl) :
    PS3 X (.Assign [.Name x pos'] e pos) (wOwn i t) := impS (ps_set hN hi hx he hs hf) fun B σ H hq24 => by
 obtain ⟨H₀, S, w, ρ, G, E, hl, st, ht, ok⟩ := hq24
 exact ⟨_, vRd ρ, _, st.fcO, st.rd, ht, fun p xs H' ds hp hp' s' d' q' => ok.nx _ _ H' _ (by rw [List.length_set]; exact hl) (st.set_ow (d := .lst ds) (by rw [hl]; exact ix_lt hi) s' hp ⟨xs, hp', d'⟩) q'⟩
end
noncomputable def start3 (N : List Str) (ds : List D) : SEnv := ds.map Sv.ro ++ List.replicate (N.length - ds.length) Sv.no
theorem start_st {K : PySem.W.Frag} {H : Hp} {S : Addr → Prop} {N : List Str} {ds : List D} {vs : List V} (fc : ∀ a, H a = none → S a) (h : Dns K S H ds vs) : ST K H S (fun _ => 0) (L2.start N vs) H (start3 N ds) [] := by
  have no : ∀ (i : Nat) (d : D), (start3 N ds)[i]? ≠ some (Sv.ow d) := fun i d e => by
    unfold start3 at e
    by_cases hi : i < ds.length
    · rw [List.getElem?_append_left (by simpa using hi), List.getElem?_map] at e
      cases q : ds[i]? with
      | none => rw [q] at e; cases e
      | some a => rw [q] at e; cases e
    · rw [List.getElem?_append_right (by simpa using hi), List.getElem?_replicate] at e
      split at e <;> cases e
  have so : ∀ a, S a → SO S (fun _ => 0) (start3 N ds) a := fun a s => ⟨s, fun i d e => absurd e (no i d)⟩
  refine ⟨fc, Same.refl H, fun i d e => absurd e (no i d), fun i j d e h1 => absurd h1 (no i d), fun i d e => ?_, fun g hg => (nomatch hg), fun i _ e => absurd e (no i _)⟩
  unfold start3 at e
  by_cases hi : i < ds.length
  · rw [List.getElem?_append_left (by simpa using hi), List.getElem?_map] at e
    cases q : ds[i]? with
    | none => rw [q] at e; cases e
    | some a =>
      rw [q] at e
      cases e
      obtain ⟨v, e1, dv⟩ := h.get q
      refine ⟨v, ?_, Dn.fits (.mono so) _ _ dv⟩
      unfold L2.start
      have hv : i < vs.length := (List.getElem?_eq_some_iff.mp e1).1
      rw [List.getElem?_append_left (by simpa using hv), List.getElem?_map, e1]
      rfl
  · rw [List.getElem?_append_right (by simpa using hi), List.getElem?_replicate] at e
    split at e <;> cases e
theorem fun3 {P : Program} {w : World} {K : PySem.W.Frag} {mg : Str → Option Value} {base : Heap} {x qual : Str} {st : Stmt} {f : Addr} {fd : FuncData} {N ps : List Str} {k : Nat} {R : Spec} (F : Fun K x qual st f fd) (S : FnScope N ps (defScope st)) (len : ∀ ds Q, R ds Q → ds.length = ps.length)
    (hbody : ∀ (cdv : Value) (A : Around) (outer : List Env) (s : Shared) (H : Hp) (E : XK), Room k (A.deeper (envOfC qual (defScope st) s.heap.objs.size f cdv)) →
      ∃ t : WS, PSs3 (cxOf CX0 P w K mg base N qual (defScope st) f cdv A outer s H E).nox (defBody st) t ∧ ∀ ds Q, R ds Q → t { nx := fun _ => Q .non, rt := Q } (start3 N ds)) : FnOk P w K mg base CX0 (k + 1) f fd ps (sp3 K R) := by
  refine F.ok S (fun vs H Q E h => ?_) fun cdv A outer s H vs Q E hr h => ?_
  · obtain ⟨S', ds, Q3, fc, dn, r, _⟩ := h
    rw [← dn.len]
    exact len ds Q3 r
  · obtain ⟨t, ht, hq⟩ := hbody cdv A outer s H E hr
    obtain ⟨S', ds, Q3, fc, dn, r, kk⟩ := h
    refine ⟨_, ht, H, S', fun _ => 0, start3 N ds, [], { nx := fun _ => Q3 .non, rt := Q3 }, ?_, start_st fc dn, hq ds Q3 r, ⟨fun w' σ' H' ρ' _ st' q => ?_, fun v H' d s' d' q => kk v H' d s' d' q, fun _ _ _ _ _ _ q => q, fun _ _ _ _ _ _ q => q, fun _ _ _ q => q.elim⟩⟩
    · have hl := len ds Q3 r
      have hl2 := dn.len
      have hp : ps.length ≤ N.length := by have := congrArg List.length S.pre; rw [List.length_take] at this; omega
      unfold L2.start
      show _ = N.length
      rw [List.length_append, List.length_map, List.length_replicate]
      omega
    · exact kk .non H' .non st'.sm (by simp only [Dn]) q
end
end L3
end
section
set_option Elab.async false
set_option linter.all false
set_option maxRecDepth 100000
set_option maxHeartbeats 3999999
namespace L3
open PySem PySem.Spec PyProof.Rows L2
noncomputable abbrev WX := SEnv → (SEnv → D → Prop) → Prop
noncomputable def liftX (K : PySem.W.Frag) (n : Nat) (t : WX) : TE := fun σ H Q => ∃ (H₀ : Hp) (S : Addr → Prop) (w : Nat → Addr) (ρ : SEnv) (G : List (D × V)) (Q3 : SEnv → D → Prop), σ.length = n ∧ ST K H₀ S w σ H ρ G ∧ t ρ Q3 ∧
  ∀ w' v H' ρ' d, ST K H₀ S w' σ H' ρ' G → Dn K (SO S w' ρ') H' d v → Q3 ρ' d → Q v H'
noncomputable def PX3 (X : Cx) (e : Expr) (t : WX) : Prop := PE X e (liftX X.K X.N.length t)
noncomputable def wPure (t : WE) : WX := fun ρ Q => t (vAll ρ) fun d => d.imm = true ∧ Q ρ d
noncomputable def wPureR (t : WE) : WX := fun ρ Q => t (vRd ρ) fun d => Q ρ d
section
variable {X : Cx}
theorem px3 {e : Expr} {t : WE} (h : PE3 X e t) : PX3 X e (wPure t) := imp h fun σ H Q hq25 => by
 obtain ⟨H₀, S, w, ρ, G, Q3, hl, st, ht, k⟩ := hq25
 exact ⟨S, vAll ρ, _, st.fcH, st.all, ht, fun v H' d s' d' q' => k w v H' ρ d (st.same s') (Dn.imm q'.1 d') q'.2⟩
theorem pxr3 {e : Expr} {t : WE} (h : PE3 X e t) : PX3 X e (wPureR t) := imp h fun σ H Q hq26 => by
 obtain ⟨H₀, S, w, ρ, G, Q3, hl, st, ht, k⟩ := hq26
 exact ⟨_, vRd ρ, _, st.fcO, st.rd, ht, fun v H' d s' d' q' => k w v H' ρ d (st.same s') d' q'⟩
noncomputable def wSetX (i : Nat) (t : WX) : WS := fun E ρ => t ρ fun ρ' d => E.nx (ρ'.set i (.ro d))
theorem setX3 {i : Nat} {x : Str} {e : Expr} {t : WX} {pos pos' : Pos} (hN : X.N.Nodup) (he : PX3 X e t) (hi : X.N[i]? = some x := by rfl) (hx : Loc X.env.scope x := by first | exact .inl rfl | exact .inr rfl) (hs : swapsWith e (some (.Name x pos')) pos.line X.env = pure false := by rfl) (hf : X.fn x = true ∨ X.env.scope.names.lookup x = some .local := by first | exact .inl rfl | exact .inr rfl) :
    PS3 X (.Assign [.Name x pos'] e pos) (wSetX i t) := impS (ps_set hN hi hx he hs hf) fun B σ H hq27 => by
 obtain ⟨H₀, S, w, ρ, G, E, hl, st, ht, ok⟩ := hq27
 exact ⟨H₀, S, w, ρ, G, _, hl, st, ht, fun w' v H' ρ' d st' d' q' => ok.nx w' _ H' _ (by rw [List.length_set]; exact hl) (st'.set_ro (by rw [hl]; exact ix_lt hi) d') q'⟩
noncomputable def wDrop (t : WX) : WS := fun E ρ => t ρ fun ρ' _ => E.nx ρ'
theorem expr3 {e : Expr} {t : WX} {pos : Pos} (he : PX3 X e t) (hs : swapsWith e none pos.line X.env = pure false := by rfl) : PS3 X (.Expr e pos) (wDrop t) := impS (ps_expr he hs) fun B σ H hq28 => by
 obtain ⟨H₀, S, w, ρ, G, E, hl, st, ht, ok⟩ := hq28
 exact ⟨H₀, S, w, ρ, G, _, hl, st, ht, fun w' v H' ρ' d st' d' q' => ok.nx w' _ H' _ hl st' q'⟩
noncomputable def wM1 (i : Nat) (f : List D → D → (List D → D → Prop) → Prop) (t : WX) : WX := fun ρ Q => (match ρ[i]? with | some (.ow (.lst _)) => True | _ => False) ∧ t ρ fun ρ' d => match ρ'[i]? with
  | some (.ow (.lst ds)) => f ds d fun ds' r => Q (ρ'.set i (.ow (.lst ds'))) r
  | _ => False
noncomputable def M3 (K : PySem.W.Frag) (r : V → List V → Hp → VK → Prop) (f : List D → D → (List D → D → Prop) → Prop) : Prop := ∀ (S : Addr → Prop) (H : Hp) (p : Addr) (xs : List V) (ds : List D) (y : V) (d : D) (Q3 : List D → D → Prop) (Q : VK),
  H p = some (.lst xs) → Dns K S H ds xs → Dn K S H d y → f ds d Q3 → (∀ ys ds' v d', Dns K S H ds' ys → Dn K S H d' v → Q3 ds' d' → Q v (upd H p (.lst ys))) → r (.ref p) [y] H Q
theorem lift_m1 {K : PySem.W.Frag} {n i : Nat} {r : V → List V → Hp → VK → Prop} {f : List D → D → (List D → D → Prop) → Prop} {t : WX} {σ : L2.St} {H : Hp} {Q : VK} (h3 : M3 K r f) (h : liftX K n (wM1 i f t) σ H Q) :
    tBM K "list" r (tVar i) (tCons (liftX K n t) tNil) σ H Q := by
  obtain ⟨H₀, S, w, ρ, G, Q3, hl, st, ⟨h0, ht⟩, k⟩ := h
  split at h0
  · rename_i ds e
    obtain ⟨a, b, c⟩ := st.own i _ e
    obtain ⟨xs, hp, dn⟩ := c
    refine ⟨_, a, .inl ⟨rfl, xs, SqL.of hp⟩, H₀, S, w, ρ, G, _, hl, st, ht, fun w' v H' ρ' d st' d' q' => ?_⟩
    split at q'
    · rename_i ds' e'
      obtain ⟨a', b', c'⟩ := st'.own i _ e'
      obtain ⟨xs', hp', dn'⟩ := c'
      have ew : w i = w' i := by
        have z := a.symm.trans a'
        have z1 := Option.some.inj (Option.some.inj z)
        injection z1
      rw [ew]
      refine h3 _ H' (w' i) xs' ds' v d _ Q hp' dn' d' q' fun ys ds2 v2 d2 dn2 dv2 q2 => ?_
      have nS : ¬ SO S w' ρ' (w' i) := fun ⟨_, z⟩ => z i _ e' rfl
      have F : Fits K (SO S w' ρ') (SO S w' ρ') H' (upd H' (w' i) (.lst ys)) := .upd (.inl ⟨_, hp'⟩) nS
      have so : ∀ a, SO S w' ρ' a → SO S w' (ρ'.set i (.ow (.lst ds2))) a := SO.mono fun j f hf => by
        rcases get_set hf with ⟨hj, _, _⟩ | ⟨_, z⟩
        · subst hj; exact ⟨_, e'⟩
        · exact ⟨_, z⟩
      exact k w' v2 _ _ d2 (st'.write (d' := .lst ds2) e' ⟨ys, upd_same, Dns.fits F _ _ dn2⟩) (Dn.fits (F.trans (.mono so)) _ _ dv2) q2
    · exact q'.elim
  · exact h0.elim
theorem m1 {i : Nat} {x : Str} {id : String} {name : Str} {e : Expr} {p apos cpos : Pos} {r : V → List V → Hp → VK → Prop} {f : List D → D → (List D → D → Prop) → Prop} {t : WX} (slot : Slot "list" name id) (hty : typeOf (.builtin id) = pure (.type "method_descriptor")) (hm : MtR X id r) (h3 : M3 X.K r f) (he : PX3 X e t)
    (hN : X.N[i]? = some x := by rfl) (hv : Vis X.env.scope x := by first | exact Or.inl rfl | exact Or.inr (Or.inl rfl) | exact Or.inr (Or.inr rfl)) (hd : (x == ("__debug__" : Str)) = false := by decide) (hcd : (x == ("__classdict__" : Str)) = false := by decide)
    (hbase : attributeBase (.Name x p) name X.env (eval (.Name x p) X.env) = eval (.Name x p) X.env := by rfl)
    (hfew : ((backTo cpos (starEach [e] X.env)).all (fun x => !x.1) && (backToKw cpos (keywordEach [] X.env)).all (fun x => x.1.isSome)
      && decide ([e].length + ([] : List Keyword).length + (if ([] : List Keyword).isEmpty then 0 else 1) < 30)) = true := by rfl)
    (hline : (apos.endLine == cpos.line) = true := by rfl) (hs : starEach [e] X.env = (false, eval e X.env) :: starEach [] X.env := by rfl) :
    PX3 X (.Call (.Attribute (.Name x p) name apos) [e] [] cpos) (wM1 i f t) :=
  imp (pe_bm PySem.F.plainAttrs_list slot hty hm (pe_var hN hv hd hcd) (pa_cons he pa_nil hs) hbase hfew hline hs (by rfl)) fun _ _ _ h => lift_m1 h3 h
noncomputable def appF : List D → D → (List D → D → Prop) → Prop := fun ds d Q => ds.length < sizeLine ∧ Q (ds ++ [d]) .non
theorem m3_app {K : PySem.W.Frag} : M3 K rAppend appF := by
  intro S H p xs ds y d Q3 Q hp dn dy hf k
  exact ⟨p, xs, y, rfl, rfl, hp, by rw [← dn.len]; exact hf.1, k _ _ _ _ (dn.append (Dns.one dy)) (by simp only [Dn]) hf.2⟩
noncomputable def popF : List D → D → (List D → D → Prop) → Prop
  | ds, .int k, Q => (-(2 ^ 63) ≤ k ∧ k < 2 ^ 63) ∧ (match ixN ds.length k with | some j => (match ds[j]? with | some d => Q (ds.eraseIdx j) d | none => False) | none => False)
  | _, _, _ => False
theorem m3_pop {K : PySem.W.Frag} : M3 K rPopAt popF := by
  intro S H p xs ds y d Q3 Q hp dn dy hf k
  cases d with
  | int i =>
    simp only [Dn] at dy
    subst dy
    obtain ⟨⟨h1, h2⟩, hf⟩ := hf
    split at hf
    · rename_i j ej
      split at hf
      · rename_i dd ed
        obtain ⟨v, ev, dv⟩ := dn.get ed
        obtain ⟨g1, _⟩ := ixN_seq ej
        exact ⟨p, xs, i, j, v, rfl, rfl, hp, h1, h2, by rw [← dn.len]; exact g1, ev, k _ _ _ _ (dn.erase j) dv hf⟩
      · exact hf.elim
    · exact hf.elim
  | _ => exact hf.elim
section
variable {i : Nat} {x : Str} {e : Expr} {p apos cpos : Pos} {t : WX}
theorem app3 (he : PX3 X e t) (hN : X.N[i]? = some x := by rfl) (hv : Vis X.env.scope x := by first | exact Or.inl rfl | exact Or.inr (Or.inl rfl) | exact Or.inr (Or.inr rfl)) (hd : (x == ("__debug__" : Str)) = false := by decide) (hcd : (x == ("__classdict__" : Str)) = false := by decide)
    (hbase : attributeBase (.Name x p) "append" X.env (eval (.Name x p) X.env) = eval (.Name x p) X.env := by rfl)
    (hfew : ((backTo cpos (starEach [e] X.env)).all (fun x => !x.1) && (backToKw cpos (keywordEach [] X.env)).all (fun x => x.1.isSome)
      && decide ([e].length + ([] : List Keyword).length + (if ([] : List Keyword).isEmpty then 0 else 1) < 30)) = true := by rfl)
    (hline : (apos.endLine == cpos.line) = true := by rfl) (hs : starEach [e] X.env = (false, eval e X.env) :: starEach [] X.env := by rfl) :
    PX3 X (.Call (.Attribute (.Name x p) "append" apos) [e] [] cpos) (wM1 i appF t) := m1 PySem.F.slot_list_append PySem.F.type_list_append mt_append m3_app he hN hv hd hcd hbase hfew hline hs
theorem pop3 (he : PX3 X e t) (hN : X.N[i]? = some x := by rfl) (hv : Vis X.env.scope x := by first | exact Or.inl rfl | exact Or.inr (Or.inl rfl) | exact Or.inr (Or.inr rfl)) (hd : (x == ("__debug__" : Str)) = false := by decide) (hcd : (x == ("__classdict__" : Str)) = false := by decide)
    (hbase : attributeBase (.Name x p) "pop" X.env (eval (.Name x p) X.env) = eval (.Name x p) X.env := by rfl)
    (hfew : ((backTo cpos (starEach [e] X.env)).all (fun x => !x.1) && (backToKw cpos (keywordEach [] X.env)).all (fun x => x.1.isSome)
      && decide ([e].length + ([] : List Keyword).length + (if ([] : List Keyword).isEmpty then 0 else 1) < 30)) = true := by rfl)
    (hline : (apos.endLine == cpos.line) = true := by rfl) (hs : starEach [e] X.env = (false, eval e X.env) :: starEach [] X.env := by rfl) :
    PX3 X (.Call (.Attribute (.Name x p) "pop" apos) [e] [] cpos) (wM1 i popF t) := m1 PySem.F.slot_list_pop PySem.F.type_list_pop mt_popAt m3_pop he hN hv hd hcd hbase hfew hline hs
end
noncomputable def isOw (ρ : SEnv) (i : Nat) : Prop := match ρ[i]? with
  | some (.ow (.lst _)) => True
  | _ => False
noncomputable def wPut (i : Nat) (t : WX) (tk : WE) : WS := fun E ρ => t ρ fun ρ' d => isOw ρ' i ∧ tk (vAll ρ') fun k => match ρ'[i]?, k with
  | some (.ow (.lst ds)), .int k => (match ixN ds.length k with | some j => E.nx (ρ'.set i (.ow (.lst (ds.set j d)))) | none => False)
  | _, _ => False
theorem put3 {i : Nat} {x : Str} {e k : Expr} {t : WX} {tk : WE} {pos pos' p : Pos} (he : PX3 X e t) (hk : PE3 X k tk)
    (hN : X.N[i]? = some x := by rfl) (hv : Vis X.env.scope x := by first | exact Or.inl rfl | exact Or.inr (Or.inl rfl) | exact Or.inr (Or.inr rfl)) (hd : (x == ("__debug__" : Str)) = false := by decide) (hcd : (x == ("__classdict__" : Str)) = false := by decide)
    (ha : ∀ v, assign (.Subscript (.Name x p) k pos') X.env v = (do
      let ov ← holding [v] (eval (.Name x p) X.env)
      let iv ← holding [v, ov] (eval k X.env)
      standAt pos'
      holding [v, ov, iv] (setItem ov iv v)
      release [v, ov, iv] []) := by intro _; rfl)
    (hs : swapsWithSole [.Subscript (.Name x p) k pos'] e pos.line X.env = pure false := by rfl) (hw : swappedStores [.Subscript (.Name x p) k pos'] e X.env = pure none := by rfl)
    (h1 : (assignEach [.Subscript (.Name x p) k pos'] X.env).map (·.2) = [assign (.Subscript (.Name x p) k pos') X.env] := by rfl) :
    PS3 X (.Assign [.Subscript (.Name x p) k pos'] e pos) (wPut i t tk) := impS (ps_asg he (pg_sub (pe_var hN hv hd hcd) hk set_list ha) hs hw h1) fun B σ H hq29 => by
  obtain ⟨H₀, S, w, ρ, G, E, hl, st, ht, ok⟩ := hq29
  refine ⟨H₀, S, w, ρ, G, _, hl, st, ht, fun w' v H' ρ' d st' d' q' => ?_⟩
  obtain ⟨q0, q'⟩ := q'
  unfold isOw at q0
  split at q0
  · rename_i ds0 e0
    obtain ⟨a0, _, _⟩ := st'.own i _ e0
    refine ⟨_, a0, S, vAll ρ', _, st'.fcH, st'.all, q', fun kv H2 dk s2 dk2 q2 => ?_⟩
    split at q2
    · rename_i ds k' e1
      simp only [Dn] at dk2
      split at q2
      · rename_i j ej
        have st2 := st'.same s2
        obtain ⟨a, b, c⟩ := st2.own i _ e1
        obtain ⟨xs, hp, dn⟩ := c
        have nS : ¬ SO S w' ρ' (w' i) := fun ⟨_, z⟩ => z i _ e1 rfl
        have F : Fits X.K (SO S w' ρ') (SO S w' ρ') H2 (upd H2 (w' i) (.lst (xs.set j v))) := .upd (.inl ⟨_, hp⟩) nS
        exact ⟨w' i, xs, k', j, rfl, dk2, hp, by rw [← dn.len]; exact ej, ok.nx w' σ _ _ hl (st2.write (d' := .lst (ds.set j d)) e1 ⟨_, upd_same, Dns.fits F _ _ (dn.set j (Dn.fits (.same s2) _ _ d'))⟩) q2⟩
      · exact q2.elim
    · exact q2.elim
  · exact q0.elim
end
end L3
end
section
set_option Elab.async false
set_option linter.all false
set_option maxRecDepth 100000
set_option maxHeartbeats 3999999
namespace L3
open PySem PySem.Spec PyProof.Rows L2
structure Wlk (K : PySem.W.Frag) (J : It) (ds : List D) (G : List (D × V)) : Prop where
  go : ∀ (S : Addr → Prop) (H : Hp), (∀ a, H a = none → S a) → (∀ g ∈ G, Dn K S H g.1 g.2) → ∀ (i : Nat) (d : D), ds[i]? = some d → J.go i H ∧ ∀ x H', J.yld i H x H' → Same H H' ∧ Dn K S H' d x
  stop : ∀ (S : Addr → Prop) (H : Hp), (∀ g ∈ G, Dn K S H g.1 g.2) → ∀ i : Nat, ds.length = i → J.stop i H
noncomputable abbrev WI := DEnv → (List D → Prop) → Prop
noncomputable def liftI (K : PySem.W.Frag) (t : WI) : TI := fun σ H R => ∃ (S : Addr → Prop) (ρ : DEnv) (Q3 : List D → Prop), (∀ a, H a = none → S a) ∧ Sl K S H ρ σ ∧ t ρ Q3 ∧
  ∀ J H' ds G, Same H H' → (∀ g ∈ G, Dn K S H' g.1 g.2) → Wlk K J ds G → Q3 ds → R J H'
noncomputable def PI3 (X : Cx) (tg iter : Expr) (t : WI) : Prop := PI X tg iter (liftI X.K t)
section
variable {X : Cx} {tg : Expr}
theorem impI {e : Expr} {t t' : TI} (h : PI X tg e t) (f : ∀ σ H R, t' σ H R → t σ H R) : PI X tg e t' := fun pins s σ H R I q => h pins s σ H R I (f σ H R q)
noncomputable def wWalk (t : WE) : WI := fun ρ Q => t ρ fun d => match d with
  | .lst ds => Q ds
  | .tup ds => Q ds
  | _ => False
theorem wlk_list {K : PySem.W.Frag} {a : Addr} {ds : List D} : Wlk K (Itl K a) ds [(.lst ds, .ref a)] where
  go := fun S H fc hg i d e => by
    have h := hg _ (List.mem_singleton.mpr rfl)
    simp only [Dn] at h
    obtain ⟨b, xs, eb, hb, sb, dn⟩ := h
    injection eb with eb
    subst eb
    obtain ⟨v, ev, dv⟩ := dn.get e
    refine ⟨⟨xs, v, SqL.of hb, ev⟩, fun x H' y => ?_⟩
    obtain ⟨e1, y⟩ := y
    subst e1
    have ex := y xs (SqL.of hb)
    rw [ev] at ex
    cases ex
    exact ⟨Same.refl _, dv⟩
  stop := fun S H hg i hi => by
    have h := hg _ (List.mem_singleton.mpr rfl)
    simp only [Dn] at h
    obtain ⟨b, xs, eb, hb, sb, dn⟩ := h
    injection eb with eb
    subst eb
    exact ⟨xs, SqL.of hb, by rw [← dn.len]; exact Nat.le_of_eq hi⟩
theorem wlk_tup {K : PySem.W.Frag} {a : Addr} {ds : List D} : Wlk K (Itt K a) ds [(.tup ds, .ref a)] where
  go := fun S H fc hg i d e => by
    have h := hg _ (List.mem_singleton.mpr rfl)
    simp only [Dn] at h
    obtain ⟨b, xs, eb, hb, dn⟩ := h
    injection eb with eb
    subst eb
    obtain ⟨v, ev, dv⟩ := dn.get e
    refine ⟨⟨xs, v, (SqT.of hb), ev⟩, fun x H' y => ?_⟩
    obtain ⟨e1, y⟩ := y
    subst e1
    have ex := y xs (SqT.of hb)
    rw [ev] at ex
    cases ex
    exact ⟨Same.refl _, dv⟩
  stop := fun S H hg i hi => by
    have h := hg _ (List.mem_singleton.mpr rfl)
    simp only [Dn] at h
    obtain ⟨b, xs, eb, hb, dn⟩ := h
    injection eb with eb
    subst eb
    exact ⟨xs, (SqT.of hb), by rw [← dn.len]; exact Nat.le_of_eq hi⟩
theorem pi_seq {l : Expr} {tl : TE} (hl : PE X l tl) : PI X tg l (fun σ H R => tl σ H fun x H1 => ∃ a, x = .ref a ∧ (((∃ xs, SqL X.K H1 a xs) ∧ R (Itl X.K a) H1) ∨ ((∃ xs, SqT X.K H1 a xs) ∧ R (Itt X.K a) H1))) := by
  intro pins s σ H R I h
  refine thn (hl pins s σ H _ I h) fun v s1 hq30 => ?_
  obtain ⟨x, H1, I1, r1, q1⟩ := hq30
  obtain ⟨a, e, q⟩ := q1
  subst e
  cases r1
  rcases q with ⟨⟨xs, hq⟩, q⟩ | ⟨⟨xs, hq⟩, q⟩
  · obtain ⟨its, rv, p, hz⟩ := I1.list hq
    refine wpAny_pyIter_list p.isList ?_
    refine ⟨s1.heap.objs.size, [s1.heap.objs.size], _, _, H1, rfl, I1.kept (t' := s1.toks) fun b o e => Heap.get?_push_of_some _ e, turn_list a _, ⟨_, Heap.get?_push_size _ rfl, rfl, rfl⟩, fun b hb => ?_, q⟩
    have e : b = s1.heap.objs.size := by simpa using hb
    subst e
    exact I1.fpOk (Nat.le_refl _) (I1.hok.fresh (Nat.le_refl _))
  · obtain ⟨its, rv, p, hz⟩ := I1.tuple hq
    refine wpAny_pyIter_tuple (show s1.heap.IsTuple a its.toArray from p) ?_
    refine ⟨s1.heap.objs.size, [s1.heap.objs.size], _, _, H1, rfl, I1.kept (t' := s1.toks) fun b o e => Heap.get?_push_of_some _ e, turn_tuple a _, ⟨_, Heap.get?_push_size _ rfl, rfl, rfl⟩, fun b hb => ?_, q⟩
    have e : b = s1.heap.objs.size := by simpa using hb
    subst e
    exact I1.fpOk (Nat.le_refl _) (I1.hok.fresh (Nat.le_refl _))
theorem walk3 {l : Expr} {t : WE} (h : PE3 X l t) : PI3 X tg l (wWalk t) := impI (pi_seq h) fun σ H R hq31 => by
  obtain ⟨S, ρ, Q3, fc, sl, ht, k⟩ := hq31
  refine ⟨S, ρ, _, fc, sl, ht, fun v H1 d s1 d1 q1 => ?_⟩
  cases d with
  | lst ds =>
    have d1' := d1
    simp only [Dn] at d1
    obtain ⟨a, xs, rfl, ha, sa, da⟩ := d1
    exact ⟨a, rfl, .inl ⟨⟨xs, SqL.of ha⟩, k _ H1 ds [(.lst ds, .ref a)] s1 (fun g hg => by cases List.mem_singleton.mp hg; exact d1') wlk_list q1⟩⟩
  | tup ds =>
    have d1' := d1
    simp only [Dn] at d1
    obtain ⟨a, xs, rfl, ha, da⟩ := d1
    exact ⟨a, rfl, .inr ⟨⟨xs, (SqT.of ha)⟩, k _ H1 ds [(.tup ds, .ref a)] s1 (fun g hg => by cases List.mem_singleton.mp hg; exact d1') wlk_tup q1⟩⟩
  | _ => exact q1.elim
noncomputable def rngI (lo : Int) (n : Nat) : List Int := (List.range n).map fun k : Nat => lo + (k : Int)
theorem rngI_length (lo : Int) (n : Nat) : (rngI lo n).length = n := by simp [rngI]
theorem rngI_get {lo : Int} {n i : Nat} : (rngI lo n)[i]? = if i < n then some (lo + (i : Int)) else none := by
  unfold rngI
  rw [List.getElem?_map]
  by_cases h : i < n
  · rw [if_pos h, List.getElem?_range h]; rfl
  · rw [if_neg h, List.getElem?_eq_none (by simpa using h)]; rfl
theorem wlk_range {K : PySem.W.Frag} {lo : Int} {n : Nat} : Wlk K (Itr lo n) ((rngI lo n).map D.int) [] where
  go := fun S H fc hg i d e => by
    rw [List.getElem?_map, rngI_get] at e
    by_cases h : i < n
    · rw [if_pos h] at e
      cases e
      refine ⟨h, fun x H' y => ?_⟩
      obtain ⟨e1, e2⟩ := y
      subst e1
      exact ⟨Same.refl _, by simp only [Dn]; exact e2⟩
    · rw [if_neg h] at e; cases e
  stop := fun S H hg i hi => by rw [List.length_map, rngI_length] at hi; exact Nat.le_of_eq hi
noncomputable def wRange (t : WA) : WI := fun ρ Q => t ρ fun ds => match ds with
  | [.int j] => (-(2 ^ 62) ≤ j ∧ j < 2 ^ 62) ∧ Q ((rngI 0 j.toNat).map D.int)
  | _ => False
theorem range3 {a : Expr} {t : WA} {p pos : Pos} (hm : X.mg "range" = none) (ha : PA3 X [a] t) (hg : Gl X "range" := by rfl) (hs : starEach [a] X.env = [(false, eval a X.env)] := by rfl) : PI3 X tg (.Call (.Name "range" p) [a] [] pos) (wRange t) :=
  impI (pi_range1 hg hm ha hs) fun σ H R hq32 => by
    obtain ⟨S, ρ, Q3, fc, sl, ht, k⟩ := hq32
    refine ⟨S, ρ, _, fc, sl, ht, fun vs H1 ds s1 d1 q1 => ?_⟩
    split at q1
    · rename_i j
      obtain ⟨v, r, rfl, h1, h2⟩ := d1.uncons
      simp only [Dns] at h2
      subst h2
      simp only [Dn] at h1
      subst h1
      exact ⟨j, rfl, q1.1.1, q1.1.2, k _ H1 _ [] s1 (fun g hg => nomatch hg) wlk_range q1.2⟩
    · exact q1.elim
noncomputable abbrev WG := D → SEnv → (SEnv → Prop) → Prop
noncomputable def liftG (K : PySem.W.Frag) (n : Nat) (g : WG) : TG := fun v σ H Q => ∃ (H₀ : Hp) (S : Addr → Prop) (w : Nat → Addr) (ρ : SEnv) (G : List (D × V)) (d : D) (Q3 : SEnv → Prop), σ.length = n ∧ ST K H₀ S w σ H ρ G ∧ Dn K (SO S w ρ) H d v ∧ g d ρ Q3 ∧
  ∀ σ' H' ρ', σ'.length = n → ST K H₀ S w σ' H' ρ' G → Q3 ρ' → Q σ' H'
noncomputable def PG3 (X : Cx) (tg : Expr) (g : WG) : Prop := PG X tg (liftG X.K X.N.length g)
theorem impG {e : Expr} {t t' : TG} (h : PG X e t) (f : ∀ v σ H Q, t' v σ H Q → t v σ H Q) : PG X e t' := fun pins s σ H v u Q I r q => h pins s σ H v u Q I r (f v σ H Q q)
noncomputable def gN (i : Nat) : WG := fun d ρ Q => Q (ρ.set i (.ro d))
theorem name3 {i : Nat} {x : Str} {pos : Pos} (hN : X.N.Nodup) (hi : X.N[i]? = some x := by rfl) (hx : Loc X.env.scope x := by first | exact .inl rfl | exact .inr rfl) (hf : X.fn x = true ∨ X.env.scope.names.lookup x = some .local := by first | exact .inl rfl | exact .inr rfl) : PG3 X (.Name x pos) (gN i) :=
  impG (pg_name hN hi hx hf) fun v σ H Q hq33 => by obtain ⟨H₀, S, w, ρ, G, d, Q3, hl, st, dn, hg, k⟩ := hq33; exact k _ H _ (by rw [List.length_set]; exact hl) (st.set_ro (by rw [hl]; exact ix_lt hi) dn) hg
noncomputable def g2 (i j : Nat) : WG := fun d ρ Q => match d with
  | .tup [d1, d2] => Q ((ρ.set i (.ro d1)).set j (.ro d2))
  | _ => False
theorem pair3 {i j : Nat} {x y : Str} {k : Nat} {pos px py : Pos} (hc : X.calm = true) (hN : X.N.Nodup) (hi : X.N[i]? = some x := by rfl) (hj : X.N[j]? = some y := by rfl) (hx : Loc X.env.scope x := by first | exact .inl rfl | exact .inr rfl) (hy : Loc X.env.scope y := by first | exact .inl rfl | exact .inr rfl)
    (hf : X.fn x = true ∨ X.env.scope.names.lookup x = some .local := by first | exact .inl rfl | exact .inr rfl) (hf2 : X.fn y = true ∨ X.env.scope.names.lookup y = some .local := by first | exact .inl rfl | exact .inr rfl)
    (hn : (assignEach [.Name x px, .Name y py] X.env).length = 2 := by rfl) (hst : (assignEach [.Name x px, .Name y py] X.env).findIdx? (·.1) = none := by rfl)
    (hs1 : (assignEach [.Name x px, .Name y py] X.env).map (·.2) = assign (.Name x px) X.env :: (assignEach [.Name y py] X.env).map (·.2) := by rfl) (hs2 : (assignEach [.Name y py] X.env).map (·.2) = assign (.Name y py) X.env :: (assignEach [] X.env).map (·.2) := by rfl) :
    PG3 X (.Tuple [.Name x px, .Name y py] k pos) (g2 i j) :=
  impG (pg_tup (n := 2) hc (pgs_cons (pg_name hN hi hx hf) (pgs_cons (pg_name hN hj hy hf2) pgs_nil hs2) hs1) hn hst) fun v σ H Q hq34 => by
    obtain ⟨H₀, S, w, ρ, G, d, Q3, hl, st, dn, hg, k⟩ := hq34
    unfold g2 at hg
    split at hg
    · rename_i d1 d2
      simp only [Dn] at dn
      obtain ⟨a, xs, rfl, ha, da⟩ := dn
      obtain ⟨v1, r1, rfl, h1, h2⟩ := da.uncons
      obtain ⟨v2, r2, rfl, h3, h4⟩ := h2.uncons
      simp only [Dns] at h4
      subst h4
      refine ⟨a, _, rfl, (SqT.of ha), rfl, v1, [v2], rfl, v2, [], rfl, rfl, ?_⟩
      have st1 := st.set_ro (i := i) (by rw [hl]; exact ix_lt hi) h1
      have m : ∀ a, SO S w ρ a → SO S w (ρ.set i (.ro d1)) a := SO.mono fun n f hf => by
        rcases get_set hf with ⟨_, z, _⟩ | ⟨_, z⟩
        · cases z
        · exact ⟨_, z⟩
      have st2 := st1.set_ro (i := j) (d := d2) (v := v2) (by rw [List.length_set, hl]; exact ix_lt hj) (Dn.fits (.mono m) _ _ h3)
      exact k _ H _ (by rw [List.length_set, List.length_set]; exact hl) st2 hg
    · exact hg.elim
noncomputable def wFor (ti : WI) (g : WG) (tb : WS) : WS := fun E ρ => ti (vRd ρ) fun ds => ∃ Inv : Nat → SEnv → Prop, Inv 0 ρ ∧
  (∀ (i : Nat) (d : D) (ρ' : SEnv), ds[i]? = some d → Inv i ρ' → g d ρ' fun ρ2 => tb { E with nx := Inv (i + 1), ct := Inv (i + 1), bk := E.nx } ρ2) ∧ ∀ ρ', Inv ds.length ρ' → E.nx ρ'
theorem for3 {iter : Expr} {body : List Stmt} {ti : WI} {g : WG} {tb : WS} {pos : Pos} (hc : X.calm = true) (hp : PassesOwn (model X.prog X.w) X.A X.env X.xe) (hi : PI3 X tg iter ti) (hg : PG3 X tg g) (hb : PSs3 X body tb)
    (hs : ∀ x, foldedSetIterable iter X.env x = pure x := by intro _; rfl) : PS3 X (.For tg iter body [] pos) (wFor ti g tb) := impS (ps_for hp hc hi hg hb hs) fun B σ H hq35 => by
  obtain ⟨H₀, S, w, ρ, G, E, hl, st, ht, ok⟩ := hq35
  refine ⟨_, vRd ρ, _, st.fcO, st.rd, ht, fun J H1 ds G1 s1 hg1 wk q1 => ?_⟩
  obtain ⟨Iv, h0, turn, fin⟩ := q1
  have stG : ∀ {w σ H ρ}, ST X.K H₀ S w σ H ρ (G1 ++ G) → ST X.K H₀ S w σ H ρ G := fun st => st.ghost fun g hg => st.gh g (List.mem_append_right _ hg)
  refine ⟨fun i m σ H => m = ds.length - i ∧ i ≤ ds.length ∧ σ.length = X.N.length ∧ ∃ w ρ, ST X.K H₀ S w σ H ρ (G1 ++ G) ∧ Iv i ρ,
    ⟨_, rfl, Nat.zero_le _, hl, w, ρ, (st.same s1).ghost fun g hg => (List.mem_append.mp hg).elim (fun z => hg1 g z) fun z => (st.same s1).gh g z, h0⟩, ?_⟩
  rintro i m σ2 H2 ⟨rfl, hi2, hl2, w2, ρ2, st2, iv⟩
  by_cases hlt : i < ds.length
  · refine .inr ?_
    obtain ⟨g1, g2⟩ := wk.go _ H2 st2.fcO (fun g hg => st2.gh g (List.mem_append_left _ hg)) i ds[i] (by simp [hlt])
    refine ⟨g1, fun σ' H' => σ'.length = X.N.length ∧ ∃ w ρ, ST X.K H₀ S w σ' H' ρ (G1 ++ G) ∧ Iv (i + 1) ρ, fun σ' H' ⟨hl', w', ρ', st', iv'⟩ => ⟨ds.length - (i + 1), by omega, rfl, hlt, hl', w', ρ', st', iv'⟩, fun x H' y => ?_⟩
    obtain ⟨s3, dx⟩ := g2 x H' y
    refine ⟨H₀, S, w2, ρ2, G1 ++ G, ds[i], _, hl2, st2.same s3, dx, turn i ds[i] ρ2 (by simp [hlt]) iv, fun σ4 H4 ρ4 hl4 st4 q4 => ?_⟩
    exact ⟨H₀, S, w2, ρ4, G1 ++ G, _, hl4, st4, q4, ⟨fun w' σ' H' ρ' hl' st' q => ⟨hl', w', ρ', st', q⟩, fun v H' d s' d' q => ok.rt v H' d s' d' q, fun w' σ' H' ρ' hl' st' q => ok.nx w' σ' H' ρ' hl' (stG st') q, fun w' σ' H' ρ' hl' st' q => ⟨hl', w', ρ', st', q⟩, ok.ex⟩⟩
  · have e : i = ds.length := by omega
    subst e
    exact .inl ⟨wk.stop _ H2 (fun g hg => st2.gh g (List.mem_append_left _ hg)) _ rfl, ok.nx w2 σ2 H2 ρ2 hl2 (stG st2) (fin ρ2 iv)⟩
end
end L3
end
section
set_option Elab.async false
set_option linter.all false
set_option maxRecDepth 100000
set_option maxHeartbeats 3999999
namespace L3
open PySem PySem.Spec PyProof.Rows L2
theorem closure_of {scope : Scope} {env : Env} (h : ∀ x ∈ scope.names, x.2 = .free → ∃ c, env.cells.lookup x.1 = some c) :
    ∃ cl, closureFor scope env = pure cl ∧ (∀ x ∈ scope.names, x.2 = .free → cl.lookup x.1 = env.cells.lookup x.1) ∧ ∀ x c, cl.lookup x = some c → env.cells.lookup x = some c := by
  have go : ∀ (l : List (Str × NameKind)) (acc : List (Str × Addr)), (∀ x ∈ l, x.2 = .free → ∃ c, env.cells.lookup x.1 = some c) → (∀ x c, acc.lookup x = some c → env.cells.lookup x = some c) →
      ∃ cl, (forIn l acc fun (x : Str × NameKind) (cs : List (Str × Addr)) => (match x with | (name, kind) => if (kind == NameKind.free) = true then (do let c ← cellOf env name; pure (ForInStep.yield ((name, c) :: cs))) else pure (ForInStep.yield cs) : Sem (ForInStep (List (Str × Addr))))) = pure cl ∧
        (∀ x c, acc.lookup x = some c → cl.lookup x = some c) ∧ (∀ x ∈ l, x.2 = .free → cl.lookup x.1 = env.cells.lookup x.1) ∧ ∀ x c, cl.lookup x = some c → env.cells.lookup x = some c := by
    intro l
    induction l with
    | nil => intro acc _ ha; exact ⟨acc, by rw [List.forIn_nil], fun _ _ z => z, fun x hx => (nomatch hx), ha⟩
    | cons y l ih =>
      intro acc hf ha
      by_cases hk : y.2 = .free
      · obtain ⟨c, hc⟩ := hf y List.mem_cons_self hk
        have ha' : ∀ x c', ((y.1, c) :: acc).lookup x = some c' → env.cells.lookup x = some c' := fun x c' hx => by
          rw [List.lookup_cons] at hx
          split at hx
          · rename_i e
            cases hx
            rw [eq_of_beq e]; exact hc
          · exact ha x c' hx
        obtain ⟨cl, e, h1, h2, h3⟩ := ih ((y.1, c) :: acc) (fun x hx => hf x (List.mem_cons_of_mem _ hx)) ha'
        refine ⟨cl, ?_, fun x c' hx => ?_, fun x hx hfx => ?_, h3⟩
        · rw [List.forIn_cons, ← e]
          have e1 : (y.2 == NameKind.free) = true := by rw [hk]; rfl
          have e2 : cellOf env y.1 = pure c := by unfold cellOf; rw [hc]
          obtain ⟨yn, yk⟩ := y
          dsimp only at e1 e2 ⊢
          rw [if_pos e1, e2]
          rfl
        · by_cases hxy : x = y.1
          · subst hxy
            have e3 : ((y.1, c) :: acc).lookup y.1 = some c := by simp
            have e4 := ha _ _ hx
            rw [hc] at e4
            cases e4
            exact h1 _ _ e3
          · refine h1 x c' ?_
            rw [List.lookup_cons]
            have : (x == y.1) = false := by simpa using hxy
            rw [this]; exact hx
        · rcases List.mem_cons.mp hx with rfl | hx
          · rw [hc]; exact h1 _ _ (by simp)
          · exact h2 x hx hfx
      · obtain ⟨cl, e, h1, h2, h3⟩ := ih acc (fun x hx => hf x (List.mem_cons_of_mem _ hx)) ha
        refine ⟨cl, ?_, h1, fun x hx hfx => ?_, h3⟩
        · rw [List.forIn_cons, ← e]
          have e1 : ¬ (y.2 == NameKind.free) = true := by simpa using hk
          obtain ⟨yn, yk⟩ := y
          dsimp only at e1 ⊢
          rw [if_neg e1]
          rfl
        · rcases List.mem_cons.mp hx with rfl | hx
          · exact absurd hfx hk
          · exact h2 x hx hfx
  obtain ⟨cl, e, _, h2, h3⟩ := go scope.names [] h (fun x c z => by simp at z)
  refine ⟨cl, ?_, h2, h3⟩
  have e' := congrArg (fun t => t >>= fun r => (pure r : Sem (List (Str × Addr)))) e
  exact e'
theorem cellsFrom_around : ∀ (l : List (Str × NameKind)) (n : Nat) (own cl : List (Str × Addr)), cellsFrom n l (own ++ cl) = cellsFrom n l own ++ cl
  | [], _, _, _ => rfl
  | (x, k) :: r, n, own, cl => by
    unfold cellsFrom
    split
    · exact cellsFrom_around r (n + 1) ((x, n) :: own) cl
    · exact cellsFrom_around r n own cl
theorem cellsFrom_kind : ∀ (l : List (Str × NameKind)) (n : Nat) (own : List (Str × Addr)) (p : Str × Addr), p ∈ cellsFrom n l own → p ∈ own ∨ (p.1, NameKind.cell) ∈ l
  | [], _, _, _, h => .inl h
  | (x, k) :: r, n, own, p, h => by
    unfold cellsFrom at h
    split at h
    · rename_i hk
      rcases cellsFrom_kind r _ _ p h with h | h
      · rcases List.mem_cons.1 h with rfl | h
        · exact .inr (by rw [← eq_of_beq hk]; exact List.mem_cons_self)
        · exact .inl h
      · exact .inr (List.mem_cons_of_mem _ h)
    · rcases cellsFrom_kind r _ _ p h with h | h
      · exact .inl h
      · exact .inr (List.mem_cons_of_mem _ h)
theorem cellsFrom_has : ∀ (l : List (Str × NameKind)) (n : Nat) (own : List (Str × Addr)) (x : Str), ((∃ c, own.lookup x = some c) ∨ (x, NameKind.cell) ∈ l) → ∃ c, (cellsFrom n l own).lookup x = some c
  | [], _, _, _, h => h.elim id fun z => (nomatch z)
  | (y, k) :: r, n, own, x, h => by
    unfold cellsFrom
    split
    · refine cellsFrom_has r _ _ x ?_
      by_cases e : x = y
      · exact .inl ⟨n, by rw [e, List.lookup_cons, beq_self_eq_true]⟩
      · rcases h with ⟨c, h⟩ | h
        · exact .inl ⟨c, by rw [List.lookup_cons, beq_eq_false_iff_ne.mpr e]; exact h⟩
        · rcases List.mem_cons.mp h with z | z
          · exact absurd (Prod.mk.inj z).1 e
          · exact .inr z
    · rename_i hk
      refine cellsFrom_has r _ _ x (h.imp_right fun z => ?_)
      rcases List.mem_cons.mp z with z | z
      · rw [← (Prod.mk.inj z).2] at hk; exact absurd rfl hk
      · exact z
theorem new_block {M : Model} {A : Around} {E : Value → Shared → Prop} {s : Shared} {sc : Scope} {g : Addr} {cl : List (Str × Addr)} {q : Str} {f : Option Addr} {code : Value} {env : Env} {bl : Addr} {Q : Env → Shared → Prop}
    (h : ∀ h4 : Heap, h4.Ns s.heap.objs.size (fun _ => none) → (∀ b o, s.heap.get? b = some o → h4.get? b = some o) → CellsOk h4 (s.heap.objs.size + 1) (cellsFrom (s.heap.objs.size + 1) sc.names []) →
      Q (newEnv sc s.heap.objs.size g (cellsFrom (s.heap.objs.size + 1) sc.names cl) q f code (some env) bl) { s with heap := h4 }) :
    wpAny M A (newFunctionEnv sc g cl [] q f code (some env) bl) Q E s := by
  unfold newFunctionEnv
  refine wpAny_bind (wpAny_alloc (wpAny_bind (wpAny_layCells _ (fun x k c => by cases e : k == NameKind.cell <;> simp [e]) _ _ _ _ ?_)))
  have hz : ∀ o : Obj, (s.heap.push o).objs.size = s.heap.objs.size + 1 := fun o => Heap.size_push ..
  have ok := fun o => cellsFrom_ok sc.names (s.heap.push o) (s.heap.objs.size + 1) [] ⟨fun _ _ z => (nomatch z), .nil⟩ (by rw [hz]; exact Nat.le_refl _)
  simp only [hz] at ok ⊢
  rw [List.forIn_nil]
  exact wpAny_bind (wpAny_pure (wpAny_pure (h _ ((Heap.Ns.new s.heap _).keeps (pushCells_keeps _ _)) (fun b o e => pushCells_keeps _ _ b o (Heap.get?_push_of_some _ e)) (ok _))))
noncomputable def blk (X : Cx) (N : List Str) (sc : Scope) (cl : List (Str × Addr)) (C : Addr) (pn : List (Addr × Obj)) (ex : List Addr) (s₀ : Shared) (H₀ : Hp) : Cx :=
  { X with N := N, s₀ := s₀, H₀ := H₀, env := compEnvC sc cl C X.env, outer := X.stack, stack := X.stack, ex := ex, fn := fun x => sc.names.lookup x == some NameKind.cell, pn := pn, xe := fun _ _ => False }
noncomputable def bst (nl : Nat) (fr : List Nat) (σ : L2.St) : L2.St := List.replicate nl none ++ fr.map fun j => (σ[j]?).join
structure BlkOk (X : Cx) (ls fs : List Str) (fr : List Nat) (sc : Scope) : Prop where
  kind : sc.kind = .function
  nd : (ls ++ fs).Nodup
  uniq : ∀ x ∈ sc.names, sc.names.lookup x.1 = some x.2
  free : ∀ x ∈ sc.names, x.2 = .free → X.env.kindOf x.1 = some .cell ∨ X.env.kindOf x.1 = some .free
  slot : ∀ (k : Nat) (x : Str), fs[k]? = some x → ∃ j, fr[k]? = some j ∧ X.N[j]? = some x ∧ (x, NameKind.free) ∈ sc.names ∧ sc.names.lookup x = some .free
  lenF : fr.length = fs.length
section
variable {X : Cx}
theorem lookup_kept (t : Str → NameKind → NameKind) (x : Str) : ∀ l : List (Str × NameKind), (l.map fun p => (p.1, t p.1 p.2)).lookup x = (l.lookup x).map (t x)
  | [] => rfl
  | (n, k) :: r => by
    rw [List.map_cons, List.lookup_cons, List.lookup_cons]
    by_cases hx : (x == n) = true
    · rw [hx, eq_of_beq hx]; rfl
    · rw [Bool.not_eq_true] at hx
      rw [hx]
      exact lookup_kept t x r
theorem relabel_lookup {sc : Scope} {env : Env} {x : Str} {l : List (Str × NameKind)} : (l.map fun (n, k) => if (k == NameKind.free && env.scope.kind == .function && env.kindOf n == some .cell) then (n, NameKind.cell) else (n, k)).lookup x =
    (l.lookup x).map fun k => if (k == NameKind.free && env.scope.kind == .function && env.kindOf x == some .cell) then NameKind.cell else k := by
  rw [← lookup_kept (fun y k => if (k == NameKind.free && env.scope.kind == .function && env.kindOf y == some .cell) then NameKind.cell else k) x l]
  refine congrArg (List.lookup x) (List.map_congr_left fun p _ => ?_)
  dsimp only
  split <;> rfl
theorem ne_size {b c : Addr} {h : Heap} {o : Obj} (e : h.get? b = some o) (hc : c = h.objs.size) : b ≠ c := fun z => Nat.lt_irrefl _ (by have q := Heap.lt_size e; rw [z, hc] at q; exact q)
theorem lt_ne {b c : Addr} {n : Nat} (h : b < n) (hc : n ≤ c) : b ≠ c := fun z => Nat.lt_irrefl c (Nat.lt_of_lt_of_le (z ▸ h) hc)
theorem inv_blk {ls fs : List Str} {fr : List Nat} {sc : Scope} {cl : List (Str × Addr)} {C : Addr} {pins : List (Addr × Obj)} {ex : List Addr} {σ : L2.St} {H : Hp} {s s4 : Shared} (B : BlkOk X ls fs fr sc) (I : Inv X pins σ H s)
    (hcl : ∀ x ∈ sc.names, x.2 = .free → cl.lookup x.1 = X.env.cells.lookup x.1) (hcl2 : ∀ x c, cl.lookup x = some c → X.env.cells.lookup x = some c ∨ (C < c ∧ s4.heap.IsCell c none)) (hcl3 : ∀ x ∈ sc.names, x.2 = .cell → ∃ c, cl.lookup x.1 = some c ∧ C < c)
    (hinj : ∀ x y c, cl.lookup x = some c → cl.lookup y = some c → x = y) (hex : ∀ b ∈ ex, FpOk X pins H b ∧ b < s.heap.objs.size)
    (hC : C = s.heap.objs.size) {m : Str → Option Value} (hn : s4.heap.Ns C m) (hk : ∀ b o, s.heap.get? b = some o → s4.heap.get? b = some o) (ho : s4.os = s.os) (hg : s4.gens = s.gens) :
    Inv (blk X (ls ++ fs) sc cl C (X.pn ++ pins) ex s H) [] (bst ls.length fr σ) H s4 := by
  have ltC : ∀ {b : Addr} {o : Obj}, s.heap.get? b = some o → b ≠ C := fun e => ne_size e hC
  have cellC : ∀ x c, cl.lookup x = some c → c ≠ C := fun x c e => by
    rcases hcl2 x c e with e | ⟨e, _⟩
    · obtain ⟨v, o, ho, _⟩ := I.cell x c e
      exact ltC ho
    · exact Nat.ne_of_gt e
  have kOf : ∀ x, (compEnvC sc cl C X.env).kindOf x = (sc.names.lookup x).map fun k => if (k == NameKind.free && X.env.scope.kind == .function && X.env.kindOf x == some .cell) then NameKind.cell else k := fun x => relabel_lookup (sc := sc)
  have okX : (blk X (ls ++ fs) sc cl C (X.pn ++ pins) ex s H).Ok := by
    refine ⟨I.ok.mod, B.kind, I.ok.glob, I.ok.blt, (by show s.heap.objs.size ≤ C; rw [hC]; exact Nat.le_refl _), hinj, fun x hx => ?_, fun x c hf hl => ?_, I.ok.hd, I.ok.frames, .inl rfl, fun b hb => ?_, fun b o e => I.bs b o e, Nat.le_trans I.ok.bsz I.sz, fun b o e hb => ?_, fun b hb => ?_, I.stack, I.stkFree, I.tab⟩
    · -- a cell or free name of the block
      have hx' : ∃ k, sc.names.lookup x = some k ∧ ((if (k == NameKind.free && X.env.scope.kind == .function && X.env.kindOf x == some .cell) then NameKind.cell else k) = .cell ∨ (if (k == NameKind.free && X.env.scope.kind == .function && X.env.kindOf x == some .cell) then NameKind.cell else k) = .free) := by
        have hx : (compEnvC sc cl C X.env).kindOf x = some .cell ∨ (compEnvC sc cl C X.env).kindOf x = some .free := hx
        rw [kOf] at hx
        cases e : sc.names.lookup x with
        | none => rw [e] at hx; rcases hx with hx | hx <;> cases hx
        | some k => rw [e] at hx; exact ⟨k, rfl, hx.imp (fun z => Option.some.inj z) fun z => Option.some.inj z⟩
      obtain ⟨k, e, hk'⟩ := hx'
      have hm := PySem.mem_of_lookup e
      by_cases kf : k = .free
      · subst kf
        have q := hcl _ hm rfl
        obtain ⟨c, hc⟩ := I.ok.has x (B.free _ hm rfl)
        exact ⟨c, q.trans hc⟩
      · have e2 : (k == NameKind.free) = false := by simpa using kf
        rw [e2] at hk'
        simp only [Bool.false_and, Bool.false_eq_true, if_false] at hk'
        rcases hk' with z | z
        · obtain ⟨c, hc, _⟩ := hcl3 _ hm z
          exact ⟨c, hc⟩
        · exact absurd z kf
    · -- an own cell is new
      obtain ⟨c', hc', hlt⟩ := hcl3 _ (PySem.mem_of_lookup (eq_of_beq hf)) rfl
      have hc' : cl.lookup x = some c' := hc'
      have hl : cl.lookup x = some c := hl
      rw [hl] at hc'
      cases hc'
      rw [hC] at hlt
      exact Nat.le_of_lt hlt
    · refine ⟨lt_ne (hex b hb).2 (Nat.le_of_eq hC.symm), fun x c e => ?_⟩
      rcases hcl2 x c e with e | ⟨e, _⟩
      · exact (hex b hb).1.2.2.2.2.1 x c e
      · exact Ne.symm (lt_ne (hex b hb).2 (by rw [← hC]; exact Nat.le_of_lt e))
    · obtain ⟨⟨_, _, _, f3, _, _⟩, _⟩ := hex b hb
      rcases f3 with f3 | f3
      · exact I.ok.noex b o e f3
      · exact absurd (Nat.lt_of_lt_of_le (Heap.lt_size e) (Nat.le_trans I.ok.bsz f3)) (Nat.lt_irrefl _)
    · intro z
      obtain ⟨⟨_, f1, f2, _, _, _⟩, _⟩ := hex b hb
      rcases List.mem_cons.mp (I.stkSub b z) with z | z
      · exact f1 z
      · exact f2 z
  refine ⟨okX, ho, by rw [hg]; exact I.bare, Un.kept hk, ⟨m, hn, fun i x v h1 h2 h3 => ?_⟩, fun x c e => ?_, ?_, fun x c e => ?_, fun p hp => ?_, I.hok.kept hk, ?_⟩
  · -- a name with a value is one from around
    have hi : ¬ i < ls.length := fun hi => by
      unfold bst at h2
      rw [List.getElem?_append_left (by simpa using hi), List.getElem?_replicate, if_pos hi] at h2
      cases h2
    have e1 : fs[i - ls.length]? = some x := by
      have h1 : (ls ++ fs)[i]? = some x := h1
      rw [List.getElem?_append_right (by omega)] at h1
      exact h1
    obtain ⟨j, ej, eN, hm, hlk⟩ := B.slot _ _ e1
    have e2 : (σ[j]?).join = some v := by
      unfold bst at h2
      rw [List.getElem?_append_right (by simpa using hi), List.getElem?_map, List.length_replicate, ej] at h2
      exact Option.some.inj h2
    have e3 : σ[j]? = some (some v) := by
      cases q : σ[j]? with
      | none => rw [q] at e2; cases e2
      | some o => rw [q] at e2; rw [show o = some v from e2]
    have hfr := B.free _ hm rfl
    have vis : Vis X.env.scope x := .inr hfr
    obtain ⟨mm, hnm, hl⟩ := I.loc
    obtain ⟨u, r, l⟩ := hl j x v eN e3 vis
    refine ⟨u, r, ?_⟩
    rcases l with ⟨k1, _⟩ | ⟨k1, c, ec, zc⟩
    · have k1 : X.env.kindOf x = some .local := k1
      rcases hfr with z | z <;> rw [k1] at z <;> cases z
    · refine .inr ⟨?_, c, (hcl _ hm rfl).trans ec, ?_⟩
      · show (compEnvC sc cl C X.env).kindOf x = some .cell ∨ (compEnvC sc cl C X.env).kindOf x = some .free
        rw [kOf, hlk]
        dsimp only [Option.map]
        split
        · exact .inl rfl
        · exact .inr rfl
      · obtain ⟨oc, hoc, hd⟩ := zc
        exact ⟨oc, hk _ _ hoc, hd⟩
  · rcases hcl2 x c e with e | ⟨_, e⟩
    · obtain ⟨v, oc, hoc, hd⟩ := I.cell x c e
      exact ⟨v, oc, hk _ _ hoc, hd⟩
    · exact ⟨none, e⟩
  · show H C = none
    rw [hC]; exact I.hok.fresh (Nat.le_refl _)
  · rcases hcl2 x c e with e | ⟨e, _⟩
    · exact I.freeC x c e
    · exact I.hok.fresh (by rw [← hC]; exact Nat.le_of_lt e)
  · have hp : p ∈ (X.pn ++ pins) ++ [] := hp
    rw [List.append_nil] at hp
    obtain ⟨e, n, ne, nf, d⟩ := I.pin p hp
    refine ⟨hk _ _ e, n, ltC e, fun z => ?_, d⟩
    rcases List.mem_cons.mp (I.stkSub _ z) with z | z
    · exact ne z
    · exact nf z
  · show (bst ls.length fr σ).length = (ls ++ fs).length
    unfold bst
    rw [List.length_append, List.length_append, List.length_replicate, List.length_map, B.lenF]
theorem inv_back {ls fs : List Str} {sc : Scope} {cl : List (Str × Addr)} {C : Addr} {pins pins' : List (Addr × Obj)} {ex : List Addr} {σ σ' : L2.St} {H H' : Hp} {s s' : Shared} {h' : Heap} (I : Inv X pins σ H s)
    (J : Inv (blk X (ls ++ fs) sc cl C (X.pn ++ pins) ex s H) pins' σ' H' s') (hex : ∀ b ∈ ex, FpOk X pins H b) (hC : C = s.heap.objs.size) (hs : Heap.SameBut C s'.heap h') : Inv X pins σ H' { s' with heap := h' } := by
  have ltC : ∀ {b : Addr} {o : Obj}, s.heap.get? b = some o → b ≠ C := fun e => ne_size e hC
  have fr : H' C = none := J.free
  have un : Un (frs X.stack) ex H H' s.heap s'.heap := J.base
  refine I.call' (s' := { s' with heap := h' }) (ch := ex) J.os ⟨fun b o e n hb hx => (hs.2 b (ltC e)).trans (un.keep b o e n hb hx), fun b o e n hb hx => ?_, un.free, fun b o e hx => ?_, un.tups, un.frzs, un.tbls⟩ ?_ J.bare fun b hb => ?_
  · obtain ⟨sl, q⟩ := un.slot b o e n hb hx
    exact ⟨sl, (hs.2 b (ltC e)).trans q⟩
  · obtain ⟨o', q⟩ := un.there b o e hx
    exact ⟨o', (hs.2 b (ltC e)).trans q⟩
  · intro b ob e
    refine (J.hok b ob e).stay (fun c u hc q => (hs.2 c ?_).trans q) (fun _ q => q) fun _ _ q => q
    intro z
    rcases hc with hc | hc
    · rw [z] at hc; rw [← hc, fr] at e; cases e
    · rw [z, fr] at hc; cases hc
  · obtain ⟨_, f1, _, f3, f4, f5⟩ := hex b hb
    exact ⟨f3, f1, f4, f5⟩
noncomputable abbrev ifsRun (ifs : List Expr) (env : Env) : Sem Bool := forIn ifs true fun c r => if r = true then (do let b ← isTrue c env (eval c env); pure (ForInStep.yield b)) else pure (ForInStep.yield r)
noncomputable abbrev Calm (prog : Program) (w : World) (A : Around) {α : Type} (t : Sem α) (Q : α → Shared → Prop) (s : Shared) : Prop := wpAny (model prog w) A t Q (fun _ _ => False) s
theorem codeAny_compLoop_any {prog : Program} {w : World} {A : Around} {R : Result → Shared → Prop} {s : Shared} {el tg src : Expr} {ifs : List Expr} {bs : Scope} {at_ : Pos} {it acc : Value} {env : Env} (Iv : Nat → Shared → Prop)
    (turn : ∀ n s, Iv n s → Calm prog w A (pyNext it) (fun got s1 => match got with
      | none => R (.ok .next) s1
      | some v => Calm prog w A (letOwnedTupleGo tg it v) (fun _ s2 => Calm prog w A (assign tg env v) (fun _ s3 => Calm prog w A (ifsRun ifs env) (fun ok s4 =>
          if ok = true then Calm prog w A (eval el env) (fun x s5 => Calm prog w A (call (.builtin "list.append") [acc, x]) (fun _ s6 => ∃ m, m < n ∧ Iv m s6) s5) s4 else ∃ m, m < n ∧ Iv m s4) s3) s2) s1) s)
    (n : Nat) (h : Iv n s) : codeAny (model prog w) A (.compLoop (.ListComp el [⟨tg, src, ifs, 0⟩] bs at_) 0 it acc env) R s := by
  have no : ∀ {α : Type} {E : Value → Shared → Prop} {t : Sem α} {Q Q' : α → Shared → Prop} {s : Shared}, Calm prog w A t Q s → (∀ a s, Q a s → Q' a s) → wpAny (model prog w) A t Q' E s := fun h f => wpAny_mono h f fun _ _ z => z.elim
  refine codeAny_loop rfl Iv (fun n s hI => ?_) n h
  refine wpAny_noted (m := compTurn (.ListComp el [⟨tg, src, ifs, 0⟩] bs at_) 0 it acc env) ?_
  rw [compTurn_list]
  refine wpAny_bind (wpAny_standAt (wpAny_bind (no (turn n s hI) fun got s1 h1 => ?_)))
  match got, h1 with
  | none, h1 => exact wpAny_pure h1
  | some v, h1 =>
    refine wpAny_bind (no h1 fun _ _ h2 => wpAny_bind (no h2 fun _ _ h3 => wpAny_bind (no h3 fun ok s4 h4 => ?_)))
    match ok, h4 with
    | false, h4 => exact wpAny_pure (And.intro rfl h4)
    | true, h4 => exact wpAny_bind (wpAny_bind (no h4 fun _ _ h5 => wpAny_bind (no h5 fun _ _ h6 => wpAny_pure (wpAny_pure (And.intro rfl h6)))))
noncomputable abbrev TFk := L2.St → Hp → (Bool → Hp → Prop) → Prop
noncomputable def PIf (X : Cx) (ifs : List Expr) (t : TFk) : Prop :=
  ∀ (pins : List (Addr × Obj)) (s : Shared) (σ : L2.St) (H : Hp) (Q : Bool → Hp → Prop), Inv X pins σ H s → t σ H Q →
    wpAny (model X.prog X.w) X.A (forIn ifs true fun c r => if r = true then do let ok ← isTrue c X.env (eval c X.env); pure (ForInStep.yield ok) else pure (ForInStep.yield r)) (TP X pins σ Q) X.xe s
theorem if_none : PIf X [] (fun _ H Q => Q true H) := fun pins s σ H Q I h => by
  rw [List.forIn_nil]
  exact wpAny_pure ⟨H, I, h⟩
theorem if_one {c : Expr} {t : TT} (h : PT X c t) : PIf X [c] t := fun pins s σ H Q I hw => by
  rw [List.forIn_cons]
  refine wpAny_bind ?_
  rw [if_pos rfl]
  refine wpAny_bind (thn (h pins s σ H Q I hw) fun b s1 q => wpAny_pure ?_)
  dsimp only
  rw [List.forIn_nil]
  exact wpAny_pure q
noncomputable def tComp (nl : Nat) (fr : List Nat) (wi : TI) (g : TG) (tf : TFk) (te : TE) : TE := fun σ H Q => wi σ H fun J H1 => ∀ acc, H1 acc = none → ∃ W : Nat → Nat → Hp → List V → Prop, (∃ m, W 0 m (upd H1 acc (.lst [])) []) ∧
  ∀ i m H ys, W i m H ys → H acc = some (.lst ys) ∧ ((J.stop i H ∧ Q (.ref acc) H) ∨ (J.go i H ∧ ∀ x H', J.yld i H x H' → g x (bst nl fr σ) H' fun σ2 H2 => (σ2.drop nl = fr.map fun j => (σ[j]?).join) ∧ tf σ2 H2 fun b H3 =>
    if b = true then te σ2 H3 fun y H4 => H4 acc = some (.lst ys) ∧ ys.length < sizeLine ∧ ∃ m', m' < m ∧ W (i + 1) m' (upd H4 acc (.lst (ys ++ [y]))) (ys ++ [y]) else ∃ m', m' < m ∧ W (i + 1) m' H3 ys))
theorem run_comp {ls fs : List Str} {fr : List Nat} {sc : Scope} {tg iter elt : Expr} {ifs : List Expr} {pos p2 : Pos} {wi : TI} {g : TG} {tf : TFk} {te : TE} {pins : List (Addr × Obj)} {σ : L2.St} {H : Hp} {s : Shared} {Qe : VK} {use : Option (Value → Sem Unit)} {Qv : Value → Shared → Prop}
    (hc : X.calm = true) (B : BlkOk X ls fs fr sc) (hi : PI X tg iter wi) (hg : ∀ cl C pn ex s H, PG (blk X (ls ++ fs) sc cl C pn ex s H) tg g) (hf : ∀ cl C pn ex s H, PIf (blk X (ls ++ fs) sc cl C pn ex s H) ifs tf) (he : ∀ cl C pn ex s H, PE (blk X (ls ++ fs) sc cl C pn ex s H) elt te)
    (hs : ∀ x, foldedSetIterable iter X.env x = pure x) (I : Inv X pins σ H s) (h : tComp ls.length fr wi g tf te σ H Qe)
    (fin : ∀ acc C s' H', Inv X pins σ H' s' → (∃ m, s'.heap.Ns C m) → FpOk X pins H' C → Qe (.ref acc) H' → compPost (model X.prog X.w) X.A X.xe use Qv (.ref acc) C (.ok .next) s') :
    wpAny (model X.prog X.w) X.A (comprehension (.ListComp elt [⟨tg, iter, ifs, 0⟩] sc pos) sc X.env p2 (newList []) false (eval iter X.env) use) Qv X.xe s := by
  obtain ⟨cl, ecl, hcl, hcl2⟩ := closure_of (scope := sc) (env := X.env) fun x hx hf => I.ok.has x.1 (B.free x hx hf)
  refine wpAny_comprehension_free (g := ⟨tg, iter, ifs, 0⟩) (gs := []) rfl hs ecl B.kind (fun x hx e => (B.uniq x hx).trans (congrArg some e)) ?_
  refine thn (hi pins s σ H _ I h) fun v s1 h1 => thn h1 fun itv s2 h2 => ?_
  obtain ⟨it, fp, tn, J, H2, e, I2, T, st2, f2, h2⟩ := h2
  subst e
  refine wpAny_newObj_type ?_ (by show ([] : List Value).toArray.size ≤ sizeLine; simp)
  have hacc : H2 s2.heap.objs.size = none := I2.hok.fresh (Nat.le_refl _)
  have I3 : Inv X pins σ (upd H2 s2.heap.objs.size (.lst [])) { s2 with heap := s2.heap.push { cls := .type "list", data := .seq ([] : List Value).toArray } } :=
    I2.laid (t' := s2.toks) (fun b o e => Heap.get?_push_of_some _ e) (Nat.le_refl _) ⟨by simp, [], 0, .nil, Heap.get?_push_size _ rfl⟩
  have hfp : ∀ b ∈ fp, b < s2.heap.objs.size := fun b hb => by obtain ⟨o, e, _⟩ := T.obj _ _ st2 b hb; exact Heap.lt_size e
  obtain ⟨W, ⟨m0, w0⟩, turn⟩ := h2 _ hacc
  generalize hacc2 : s2.heap.objs.size = acc at hacc I3 w0 turn ⊢
  have fpne : ∀ b ∈ fp, b ≠ acc := fun b hb => lt_ne (hfp b hb) (Nat.le_of_eq hacc2)
  have f3 : ∀ b ∈ fp, FpOk X pins (upd H2 acc (.lst [])) b := fun b hb => ⟨by rw [upd_ne (fpne b hb)]; exact (f2 b hb).1, (f2 b hb).2⟩
  generalize hs3 : ({ s2 with heap := s2.heap.push { cls := .type "list", data := .seq ([] : List Value).toArray } } : Shared) = s3 at I3
  have hsz3 : s3.heap.objs.size = acc + 1 := by rw [← hs3]; show (s2.heap.push _).objs.size = _; rw [Heap.size_push, hacc2]
  have st3 : tn 0 s3.heap := T.keep _ _ _ st2 fun b hb o e => by rw [← hs3]; exact Heap.get?_push_of_some _ e
  refine new_block fun h4 hn4 hk4 co => ?_
  generalize hC : s3.heap.objs.size = C at hn4 co ⊢
  have eC : cellsFrom (C + 1) sc.names cl = cellsFrom (C + 1) sc.names [] ++ cl := cellsFrom_around sc.names (C + 1) [] cl
  generalize hcs : cellsFrom (C + 1) sc.names [] = cs at co eC
  have own : ∀ x c, cs.lookup x = some c → (x, NameKind.cell) ∈ sc.names ∧ C < c ∧ h4.IsCell c none := fun x c e => by
    have m := PySem.mem_of_lookup e
    refine ⟨?_, (co.empty x c m).2, (co.empty x c m).1⟩
    rw [← hcs] at m
    rcases cellsFrom_kind _ _ _ _ m with z | z
    · cases z
    · exact z
  generalize hdl : cellsFrom (C + 1) sc.names cl = dl at eC ⊢
  have two : ∀ x c, dl.lookup x = some c → cs.lookup x = some c ∨ (cs.lookup x = none ∧ cl.lookup x = some c) := fun x c e => by
    rw [eC, List.lookup_append] at e
    cases q : cs.lookup x with
    | none => rw [q] at e; exact .inr ⟨rfl, e⟩
    | some d => rw [q] at e; exact .inl e
  have hdl1 : ∀ x ∈ sc.names, x.2 = .free → dl.lookup x.1 = X.env.cells.lookup x.1 := fun x hx e => by
    rw [← hcl x hx e, eC, List.lookup_append]
    cases q : cs.lookup x.1 with
    | none => rfl
    | some d =>
      have z := B.uniq _ (own _ _ q).1
      rw [B.uniq x hx, e] at z
      cases z
  have hdl2 : ∀ x c, dl.lookup x = some c → X.env.cells.lookup x = some c ∨ (C < c ∧ h4.IsCell c none) := fun x c e => by
    rcases two x c e with e | ⟨_, e⟩
    · exact .inr (own x c e).2
    · exact .inl (hcl2 x c e)
  have hdl3 : ∀ x ∈ sc.names, x.2 = .cell → ∃ c, dl.lookup x.1 = some c ∧ C < c := fun x hx e => by
    obtain ⟨c, hc⟩ := cellsFrom_has sc.names (C + 1) [] x.1 (.inr (by rw [← e]; exact hx))
    rw [hcs] at hc
    exact ⟨c, by rw [eC, List.lookup_append, hc]; rfl, (own _ _ hc).2.1⟩
  have low : ∀ x c, cl.lookup x = some c → c < C := fun x c e => by
    obtain ⟨v, o, ho, _⟩ := I3.cell x c (hcl2 x c e)
    rw [← hC]; exact Heap.lt_size ho
  have hdl4 : ∀ x y c, dl.lookup x = some c → dl.lookup y = some c → x = y := fun x y c e e' => by
    rcases two x c e with e | ⟨_, e⟩ <;> rcases two y c e' with e' | ⟨_, e'⟩
    · exact name_of_addr co.apart (PySem.mem_of_lookup e) (PySem.mem_of_lookup e')
    · exact absurd (own _ _ e).2.1 (Nat.lt_asymm (low _ _ e'))
    · exact absurd (own _ _ e').2.1 (Nat.lt_asymm (low _ _ e))
    · exact I3.ok.inj x y c (hcl2 x c e) (hcl2 y c e')
  have I4 : Inv (blk X (ls ++ fs) sc dl C (X.pn ++ pins) fp s3 (upd H2 acc (.lst []))) [] (bst ls.length fr σ) (upd H2 acc (.lst [])) { s3 with heap := h4 } :=
    inv_blk B I3 hdl1 hdl2 hdl3 hdl4 (fun b hb => ⟨f3 b hb, by rw [hsz3, ← hacc2]; exact Nat.lt_succ_of_lt (hfp b hb)⟩) hC.symm hn4 hk4 rfl rfl
  generalize hX : blk X (ls ++ fs) sc dl C (X.pn ++ pins) fp s3 (upd H2 acc (.lst [])) = Y at I4
  have pY : Y.prog = X.prog := by rw [← hX]; rfl
  have wY : Y.w = X.w := by rw [← hX]; rfl
  have kY : Y.K = X.K := by rw [← hX]; rfl
  have AY : Y.A = X.A := by rw [← hX]; rfl
  have cY : Y.calm = true := by rw [← hX]; exact hc
  have eY : Y.env = compEnvC sc dl C X.env := by rw [← hX]; rfl
  have xY : Y.xe = fun _ _ => False := by rw [← hX]; rfl
  have statY : ∀ {H' : Hp}, (∀ b ∈ fp, H' b = none) → ∀ b ∈ fp, FpOk Y [] H' b := fun hn b hb => by
    rw [← hX]
    obtain ⟨_, f1, f2', _, f4, f5⟩ := f3 b hb
    refine ⟨hn b hb, fun z => ?_, fun z => ?_, .inl hb, fun x c e => ?_, fun p hp => f5 p ?_⟩
    · exact absurd z (lt_ne (hfp b hb) (by rw [← hC, hsz3, hacc2]; exact Nat.le_succ _))
    · rcases List.mem_cons.mp (I3.stkSub b z) with z | z
      · exact f1 z
      · exact f2' z
    · rcases hdl2 x c e with e | ⟨e, _⟩
      · exact f4 x c e
      · exact Ne.symm (lt_ne (hfp b hb) (by rw [hacc2]; exact Nat.le_of_lt (Nat.lt_trans (by rw [← hC, hsz3]; exact Nat.lt_succ_self _) e)))
    · have hp : p ∈ (X.pn ++ pins) ++ [] := hp
      rw [List.append_nil] at hp; exact hp
  have st4 : tn 0 h4 := T.keep _ _ _ st3 fun b hb o e => hk4 b o e
  have loop : ∀ s5 : Shared, (∃ i H', Inv Y [] (bst ls.length fr σ) H' s5 ∧ tn i s5.heap ∧ (∀ b ∈ fp, H' b = none) ∧ ∃ m ys, W i m H' ys) → codeAny (model X.prog X.w) X.A (.compLoop (.ListComp elt [⟨tg, iter, ifs, 0⟩] sc pos) 0 (.ref it) (.ref acc) (compEnvC sc dl C X.env)) (compPost (model X.prog X.w) X.A X.xe use Qv (.ref acc) C) s5 := by
    rintro s5 ⟨i, H', I5, st5, fr5, m, ys, w5⟩
    refine codeAny_compLoop_any (fun n s' => ∃ i H' ys, Inv Y [] (bst ls.length fr σ) H' s' ∧ tn i s'.heap ∧ (∀ b ∈ fp, H' b = none) ∧ W i n H' ys) ?_ m ⟨i, H', ys, I5, st5, fr5, w5⟩
    rintro n s6 ⟨i, H6, ys, I6, st6, fr6, w6⟩
    obtain ⟨ha6, alt⟩ := turn i n H6 ys w6
    rcases alt with ⟨stop, qn⟩ | ⟨go, step⟩
    · have q := T.done Y pY wY kY cY i [] s6 _ H6 (fun _ _ => False) I6 (statY fr6) st6 stop
      rw [AY] at q
      refine thn q fun r s7 hq36 => ?_
      obtain ⟨hr, I7⟩ := hq36
      subst hr
      have fr7 : H6 C = none := by
        have := I7.free
        rw [eY] at this
        exact this
      refine fin acc C s7 H6 ?_ ?_ (I3.fpOk (Nat.le_of_eq hC) fr7) qn
      · rw [← hX] at I7
        exact inv_back I3 I7 (fun b hb => f3 b hb) hC.symm (.refl ..)
      · obtain ⟨m, hm, _⟩ := I7.loc
        rw [eY] at hm
        exact ⟨m, hm⟩
    · have q := T.item Y pY wY kY cY i [] s6 _ H6 (fun _ _ => False) I6 (statY fr6) st6 go
      rw [AY] at q
      refine thn q fun r s7 hq37 => ?_
      obtain ⟨u, hr, h7⟩ := hq37
      subst hr
      refine thn h7 fun _ s8 hq38 => ?_
      obtain ⟨x, H8, I8, r8, y8, st8, fr8⟩ := hq38
      have I8' := I8.pinned (statY fr8) (T.obj _ _ st8)
      have hgY := hg dl C (X.pn ++ pins) fp s3 (upd H2 acc (.lst []))
      have hfY := hf dl C (X.pn ++ pins) fp s3 (upd H2 acc (.lst []))
      have heY := he dl C (X.pn ++ pins) fp s3 (upd H2 acc (.lst []))
      rw [hX] at hgY hfY heY
      have q8 := hgY _ s8 _ H8 x u _ I8' r8 (step x H8 y8)
      rw [pY, wY, AY, eY, xY] at q8
      refine thn q8 fun _ s9 hq39 => ?_
      obtain ⟨σ9, H9, I9, hσ9, q9⟩ := hq39
      have q10 := hfY _ s9 σ9 H9 _ I9 q9
      rw [pY, wY, AY, eY, xY] at q10
      refine thn q10 fun ok s10 hq40 => ?_
      obtain ⟨H10, I10, q10⟩ := hq40
      have bl : ∀ {H7 : Hp} {s7 : Shared}, Inv Y ([] ++ pinsAt fp s8.heap) σ9 H7 s7 → (∃ m', m' < n ∧ ∃ ys', W (i + 1) m' H7 ys') → ∃ m, m < n ∧ ∃ i H' ys, Inv Y [] (bst ls.length fr σ) H' s7 ∧ tn i s7.heap ∧ (∀ b ∈ fp, H' b = none) ∧ W i m H' ys := fun {H7 s7} I7 ⟨m', hm, ys', w7⟩ => by
        refine ⟨m', hm, i + 1, H7, ys', ?_, T.keep _ _ _ st8 fun b hb o e => (I7.pin (b, o) (List.mem_append_right _ (List.mem_append_right _ (mem_pinsAt hb e)))).1, fun b hb => ?_, w7⟩
        · refine I7.unpinned.weak ?_ fun k v e => ?_
          · rw [I7.len, ← I6.len]
          · by_cases hk : k < ls.length
            · unfold bst at e
              rw [List.getElem?_append_left (by simpa using hk), List.getElem?_replicate, if_pos hk] at e
              cases e
            · have e2 : (σ9.drop ls.length)[k - ls.length]? = some (some v) := by
                rw [hσ9]
                unfold bst at e
                rw [List.getElem?_append_right (by simpa using hk), List.length_replicate] at e
                exact e
              rw [List.getElem?_drop] at e2
              rw [show ls.length + (k - ls.length) = k by omega] at e2
              exact e2
        · obtain ⟨o, e, d⟩ := T.obj _ _ st8 b hb
          exact (I7.pin (b, o) (List.mem_append_right _ (List.mem_append_right _ (mem_pinsAt hb e)))).2.1
      cases ok with
      | false =>
        rw [if_neg Bool.false_ne_true] at q10 ⊢
        obtain ⟨m', hm, w'⟩ := q10
        exact bl I10 ⟨m', hm, ys, w'⟩
      | true =>
        rw [if_pos rfl] at q10 ⊢
        have q11 := heY _ s10 σ9 H10 _ I10 q10
        rw [pY, wY, AY, eY, xY] at q11
        refine thn q11 fun yv s11 hq41 => ?_
        obtain ⟨y, H11, I11, r11, hacc11, hz11, m', hm, w'⟩ := hq41
        have q12 := (mt_append (X := Y)) _ s11 σ9 H11 (.ref acc) [y] (.ref acc) [yv] (fun _ H' => H' = upd H11 acc (.lst (ys ++ [y]))) I11 rfl (.cons r11 .nil) ⟨acc, ys, y, rfl, rfl, hacc11, hz11, rfl⟩
        rw [pY, wY, AY, xY] at q12
        refine thn q12 fun _ s12 hq42 => ?_
        obtain ⟨_, H12, I12, _, e12⟩ := hq42
        subst e12
        exact bl I12 ⟨m', hm, _, w'⟩
  have L0 := loop _ ⟨0, _, I4, st4, fun b hb => (f3 b hb).1, m0, [], w0⟩
  refine codeAny_compStart_list L0 (T.self _ 0 _ _ _ st4 L0)
theorem pe_comp {ls fs : List Str} {fr : List Nat} {sc : Scope} {tg iter elt : Expr} {ifs : List Expr} {pos : Pos} {wi : TI} {g : TG} {tf : TFk} {te : TE}
    (hc : X.calm = true) (B : BlkOk X ls fs fr sc) (hi : PI X tg iter wi) (hg : ∀ cl C pn ex s H, PG (blk X (ls ++ fs) sc cl C pn ex s H) tg g) (hf : ∀ cl C pn ex s H, PIf (blk X (ls ++ fs) sc cl C pn ex s H) ifs tf) (he : ∀ cl C pn ex s H, PE (blk X (ls ++ fs) sc cl C pn ex s H) elt te)
    (hs : ∀ x, foldedSetIterable iter X.env x = pure x := by intro _; rfl) : PE X (.ListComp elt [⟨tg, iter, ifs, 0⟩] sc pos) (tComp ls.length fr wi g tf te) := by
  intro pins s σ H Q I h
  rw [eval_ListComp]
  refine run_comp (use := none) hc B hi hg hf he hs I h fun acc C s' H' I' hm fp q => ?_
  obtain ⟨m, hm⟩ := hm
  obtain ⟨f0, f1, _, f3, f4, f5⟩ := fp
  exact ⟨m, hm, fun h' hsb => ⟨.ref acc, H', I'.turned (t' := s'.toks) (fun b o hb e => (hsb.2 b hb).trans e) f0 f1 f3 f4 f5, rfl, q⟩⟩
theorem ps_setComp {i : Nat} {x : Str} {ls fs : List Str} {fr : List Nat} {sc : Scope} {tg iter elt : Expr} {ifs : List Expr} {pos spos pos' : Pos} {wi : TI} {g : TG} {tf : TFk} {te : TE} (hN : X.N.Nodup) (hx0 : X.N[i]? = some x) (hx : X.env.scope.names.lookup x = some .local)
    (hc : X.calm = true) (B : BlkOk X ls fs fr sc) (hi : PI X tg iter wi) (hg : ∀ cl C pn ex s H, PG (blk X (ls ++ fs) sc cl C pn ex s H) tg g) (hf : ∀ cl C pn ex s H, PIf (blk X (ls ++ fs) sc cl C pn ex s H) ifs tf) (he : ∀ cl C pn ex s H, PE (blk X (ls ++ fs) sc cl C pn ex s H) elt te)
    (hsw : swapsWith (.ListComp elt [⟨tg, iter, ifs, 0⟩] sc pos) (some (.Name x pos')) spos.line X.env = pure true)
    (hs : ∀ x, foldedSetIterable iter X.env x = pure x := by intro _; rfl) : PS X (.Assign [.Name x pos'] (.ListComp elt [⟨tg, iter, ifs, 0⟩] sc pos) spos) (tAsg (tComp ls.length fr wi g tf te) (gName i)) := by
  intro pins s σ H D I h
  rw [exec_Assign_Name_used _ _ _ _ hsw]; refine wpAny_bind (wpAny_standAt (wpAny_bind ?_))
  show wpAny _ X.A (do let _ ← comprehension (.ListComp elt [⟨tg, iter, ifs, 0⟩] sc pos) sc X.env _ (newList []) false (eval iter X.env) (some (assign (.Name x pos') X.env))) _ _ s
  refine wpAny_bind (wpAny_mono (run_comp (use := some (assign (.Name x pos') X.env)) (Qv := fun _ s' => SP X pins D .next s') hc B hi hg hf he hs I h fun acc C s' H' I' hm fp q => ?_) (fun _ s' hq => wpAny_pure (wpAny_pure hq)) fun _ _ e => e)
  obtain ⟨m, hm⟩ := hm
  obtain ⟨f0, f1, _, f3, f4, f5⟩ := fp
  refine wpAny_assign_Name (store_ok2 I' hN hx0 (.inl hx) (v := .ref acc) rfl (fun s'' I'' hsb => ?_) (.inr hx))
  obtain ⟨a, hsb, ha⟩ := hsb
  have haC : a ≠ C := by
    rcases ha with rfl | ha
    · exact Ne.symm f1
    · exact f4 x a ha
  exact ⟨m, hm.sameBut hsb (Ne.symm haC), fun h' hs' => ⟨_, H', I''.turned (t' := s''.toks) (fun b o hb e => (hs'.2 b hb).trans e) f0 f1 f3 f4 f5, q⟩⟩
end
end L3
end
section
set_option Elab.async false
set_option linter.all false
set_option maxRecDepth 100000
set_option maxHeartbeats 3999999
namespace L3
open PySem PySem.Spec PyProof.Rows L2
noncomputable def chk (outer : List (Str × NameKind)) (sc : Scope) (N ls fs : List Str) (fr : List Nat) : Bool :=
  (sc.kind == .function) && decide (ls ++ fs).Nodup && sc.names.all (fun x => decide (sc.names.lookup x.1 = some x.2)) &&
  sc.names.all (fun x => decide (x.2 = .free → (outer.lookup x.1 = some .cell ∨ outer.lookup x.1 = some .free))) && decide (fr.length = fs.length) &&
  (fs.zip fr).all (fun x => decide (N[x.2]? = some x.1) && sc.names.contains (x.1, NameKind.free) && decide (sc.names.lookup x.1 = some .free))
theorem chk_ok {X : Cx} {ls fs : List Str} {fr : List Nat} {sc : Scope} (h : chk X.env.scope.names sc X.N ls fs fr = true) : BlkOk X ls fs fr sc := by
  unfold chk at h
  simp only [Bool.and_eq_true, List.all_eq_true, decide_eq_true_eq] at h
  obtain ⟨⟨⟨⟨⟨h1, h2⟩, h3⟩, h5⟩, h6⟩, h7⟩ := h
  refine ⟨eq_of_beq h1, h2, h3, h5, fun k x e => ?_, h6⟩
  have hk : k < fs.length := (List.getElem?_eq_some_iff.mp e).1
  have hm : (x, fr[k]'(by omega)) ∈ fs.zip fr := by
    have : (fs.zip fr)[k]? = some (x, fr[k]'(by omega)) := by
      rw [List.getElem?_zip_eq_some]
      exact ⟨e, by simp⟩
    exact List.mem_of_getElem? this
  obtain ⟨⟨a, b⟩, c⟩ := h7 _ hm
  exact ⟨fr[k]'(by omega), by simp, a, by simpa using b, c⟩
noncomputable abbrev GE := D → DEnv → (DEnv → Prop) → Prop
noncomputable def liftGE (K : PySem.W.Frag) (nl n : Nat) (g : GE) : TG := fun v σ H Q => ∃ (S : Addr → Prop) (ρ : DEnv) (d : D) (Q3 : DEnv → Prop), σ.length = n ∧ (∀ a, H a = none → S a) ∧ Sl K S H ρ σ ∧ Dn K S H d v ∧ g d ρ Q3 ∧
  ∀ σ' ρ', Sl K S H ρ' σ' → σ'.drop nl = σ.drop nl → Q3 ρ' → Q σ' H
noncomputable def PG4 (X : Cx) (nl : Nat) (tg : Expr) (g : GE) : Prop := PG X tg (liftGE X.K nl X.N.length g)
theorem Sl.set {K : PySem.W.Frag} {S : Addr → Prop} {H : Hp} {ρ : DEnv} {σ : L2.St} {i : Nat} {d : D} {v : V} (h : Sl K S H ρ σ) (hi : i < σ.length) (q : Dn K S H d v) : Sl K S H (ρ.set i (some d)) (σ.set i (some v)) := fun j e he => by
  rcases get_set he with ⟨hj, z, _⟩ | ⟨hj, z⟩
  · cases z
    subst hj
    exact ⟨v, List.getElem?_set_self hi, q⟩
  · obtain ⟨u, a, b⟩ := h j e z
    exact ⟨u, by rw [List.getElem?_set_ne (Ne.symm hj)]; exact a, b⟩
noncomputable def hN (i : Nat) : GE := fun d ρ Q => Q (ρ.set i (some d))
noncomputable def h2 (i j : Nat) : GE := fun d ρ Q => match d with
  | .tup [d1, d2] => Q ((ρ.set i (some d1)).set j (some d2))
  | _ => False
theorem drop_set {α : Type} {l : List α} {i n : Nat} {x : α} (h : i < n) : (l.set i x).drop n = l.drop n := by
  rw [List.drop_set, if_pos h]
section
variable {X : Cx}
theorem bname {nl i : Nat} {x : Str} {pos : Pos} (nd : X.N.Nodup) (hil : i < nl) (hi : X.N[i]? = some x := by rfl) (hx : Loc X.env.scope x := by first | exact .inl rfl | exact .inr rfl) (hfx : X.fn x = true ∨ X.env.scope.names.lookup x = some .local := by first | exact .inr rfl | exact .inl rfl) : PG4 X nl (.Name x pos) (hN i) :=
  impG (pg_name nd hi hx hfx) fun v σ H Q hq43 => by obtain ⟨S, ρ, d, Q3, hl, fc, sl, dn, hg, k⟩ := hq43; exact k _ _ (sl.set (by rw [hl]; exact ix_lt hi) dn) (drop_set hil) hg
noncomputable def PIf3 (X : Cx) (ifs : List Expr) (t : WT) : Prop := PIf X ifs (liftT X.K t)
noncomputable def wTrue : WT := fun _ Q => Q true
theorem noif : PIf3 X [] wTrue := fun pins s σ H Q I hq44 => by obtain ⟨S, ρ, Q3, fc, sl, ht, k⟩ := hq44; exact if_none pins s σ H Q I (k true H (Same.refl H) ht)
theorem oneif {c : Expr} {t : WT} (h : PT3 X c t) : PIf3 X [c] t := if_one h
noncomputable def compW (g : GE) (tf : WT) (te : WE) (ρ : DEnv) : List D → List D → (D → Prop) → Prop
  | [], acc, Q => Q (.lst acc)
  | d :: r, acc, Q => g d ρ fun ρ2 => tf ρ2 fun b => if b = true then te ρ2 fun y => acc.length < sizeLine ∧ compW g tf te ρ r (acc ++ [y]) Q else compW g tf te ρ r acc Q
noncomputable def benv (nl : Nat) (fr : List Nat) (ρ : DEnv) : DEnv := List.replicate nl none ++ fr.map fun j => (ρ[j]?).join
noncomputable def wComp (nl : Nat) (fr : List Nat) (ti : WI) (g : GE) (tf : WT) (te : WE) : WE := fun ρ Q => ti ρ fun ds => compW g tf te (benv nl fr ρ) ds [] Q
theorem sl_benv {K : PySem.W.Frag} {S : Addr → Prop} {H : Hp} {ρ : DEnv} {σ : L2.St} {nl : Nat} {fr : List Nat} (h : Sl K S H ρ σ) : Sl K S H (benv nl fr ρ) (bst nl fr σ) := fun i d e => by
  unfold benv at e
  unfold bst
  by_cases hi : i < nl
  · rw [List.getElem?_append_left (by simpa using hi), List.getElem?_replicate, if_pos hi] at e
    cases e
  · rw [List.getElem?_append_right (by simpa using hi), List.getElem?_map, List.length_replicate] at e ⊢
    cases q : fr[i - nl]? with
    | none => rw [q] at e; cases e
    | some j =>
      rw [q] at e
      have e1 : (ρ[j]?).join = some d := Option.some.inj e
      have e2 : ρ[j]? = some (some d) := by
        cases z : ρ[j]? with
        | none => rw [z] at e1; cases e1
        | some o => rw [z] at e1; rw [show o = some d from e1]
      obtain ⟨v, ev, dv⟩ := h j d e2
      exact ⟨v, by show some ((σ[j]?).join) = _; rw [ev]; rfl, dv⟩
theorem lift_comp {K : PySem.W.Frag} {nl n : Nat} {fr : List Nat} {ti : WI} {g : GE} {tf : WT} {te : WE} {σ : L2.St} {H : Hp} {Q : VK} (hn : nl + fr.length = n) (h : liftF K (wComp nl fr ti g tf te) σ H Q) : tComp nl fr (liftI K ti) (liftGE K nl n g) (liftT K tf) (lift K te) σ H Q := by
  obtain ⟨S, ρ, Q3, fc, sl, ht, k⟩ := h
  refine ⟨S, ρ, _, fc, sl, ht, fun J H1 ds G s1 hG wk q1 => ?_⟩
  intro acc hacc
  have h0 : H acc = none := s1.free hacc
  have fc1 := fc_same fc s1
  have ok : ∀ {H2 : Hp}, Same H1 H2 → (∃ ys, H2 acc = some (.lst ys)) → (∀ a, H2 a = none → S a ∧ a ≠ acc) ∧ Sl K (fun a => S a ∧ a ≠ acc) H2 (benv nl fr ρ) (bst nl fr σ) ∧ ∀ g ∈ G, Dn K (fun a => S a ∧ a ≠ acc) H2 g.1 g.2 := fun {H2} s2 hy => by
    refine ⟨fun a e => ⟨fc_same fc1 s2 a e, fun z => ?_⟩, ?_, fun g hg => Dn.fits ((Fits.fresh hacc).trans (.same s2)) _ _ (hG g hg)⟩
    · subst z
      obtain ⟨ys, hy⟩ := hy
      rw [e] at hy; cases hy
    · exact sl_benv (Sl.fits ((Fits.fresh h0).trans (.same (s1.trans s2))) sl)
  refine ⟨fun i m H2 ys => m = ds.length - i ∧ i ≤ ds.length ∧ Same H1 H2 ∧ H2 acc = some (.lst ys) ∧ ∃ aD, Dns K (fun a => S a ∧ a ≠ acc) H2 aD ys ∧ compW g tf te (benv nl fr ρ) (ds.drop i) aD Q3,
    ⟨_, rfl, Nat.zero_le _, same_upd hacc, upd_same, [], Dns.nil, q1⟩, ?_⟩
  rintro i m H2 ys ⟨rfl, hi, s2, hy, aD, dn, cw⟩
  obtain ⟨fc2, sl2, gh2⟩ := ok s2 ⟨ys, hy⟩
  refine ⟨hy, ?_⟩
  by_cases hlt : i < ds.length
  · refine .inr ?_
    obtain ⟨g1, g2⟩ := wk.go _ H2 fc2 gh2 i ds[i] (by simp [hlt])
    refine ⟨g1, fun x H' y => ?_⟩
    obtain ⟨s3, dx⟩ := g2 x H' y
    rw [List.drop_eq_getElem_cons hlt, compW] at cw
    refine ⟨fun a => S a ∧ a ≠ acc, benv nl fr ρ, ds[i], _, ?_, fc_same fc2 s3, Sl.fits (.same s3) sl2, dx, cw, fun σ' ρ' sl' hd q' => ?_⟩
    · unfold bst; rw [List.length_append, List.length_replicate, List.length_map]; exact hn
    · refine ⟨by rw [hd]; unfold bst; rw [List.drop_append_of_le_length (by simp), List.drop_replicate]; simp, fun a => S a ∧ a ≠ acc, ρ', _, fc_same fc2 s3, sl', q', fun b H3 s4 q4 => ?_⟩
      cases b with
      | false =>
        rw [if_neg Bool.false_ne_true] at q4 ⊢
        exact ⟨_, by omega, rfl, hlt, (s2.trans s3).trans s4, (s3.trans s4) _ _ hy, aD, Dns.fits (.same (s3.trans s4)) _ _ dn, q4⟩
      | true =>
        rw [if_pos rfl] at q4 ⊢
        refine ⟨fun a => S a ∧ a ≠ acc, ρ', _, fc_same fc2 (s3.trans s4), Sl.fits (.same s4) sl', q4, fun v H4 d s5 d5 q5 => ?_⟩
        have hy4 : H4 acc = some (.lst ys) := ((s3.trans s4).trans s5) _ _ hy
        have F : Fits K (fun a => S a ∧ a ≠ acc) (fun a => S a ∧ a ≠ acc) H4 (upd H4 acc (.lst (ys ++ [v]))) := .upd (.inl ⟨_, hy4⟩) fun z => z.2 rfl
        refine ⟨hy4, by rw [← dn.len]; exact q5.1, _, by omega, rfl, hlt, fun b u hb => ?_, upd_same, aD ++ [d], Dns.fits F _ _ ((Dns.fits (.same ((s3.trans s4).trans s5)) _ _ dn).append (Dns.one d5)), q5.2⟩
        rw [upd_ne (ne_of_none hb hacc)]
        exact (((s2.trans s3).trans s4).trans s5) _ _ hb
  · have e : i = ds.length := by omega
    subst e
    rw [List.drop_length, compW] at cw
    exact .inl ⟨wk.stop _ H2 gh2 _ rfl, k acc ys H2 aD h0 hy (s1.trans s2) dn cw⟩
theorem comp3 {ls fs : List Str} {fr : List Nat} {sc : Scope} {tg iter elt : Expr} {ifs : List Expr} {pos : Pos} {ti : WI} {g : GE} {tf : WT} {te : WE} (hc : X.calm = true) (hi : PI3 X tg iter ti)
    (hg : ∀ cl C pn ex s H, (blk X (ls ++ fs) sc cl C pn ex s H).N.Nodup → PG4 (blk X (ls ++ fs) sc cl C pn ex s H) ls.length tg g) (hf : ∀ cl C pn ex s H, PIf3 (blk X (ls ++ fs) sc cl C pn ex s H) ifs tf) (he : ∀ cl C pn ex s H, PE3 (blk X (ls ++ fs) sc cl C pn ex s H) elt te)
    (B : chk X.env.scope.names sc X.N ls fs fr = true := by rfl) (hs : ∀ x, foldedSetIterable iter X.env x = pure x := by intro _; rfl) : PF3 X (.ListComp elt [⟨tg, iter, ifs, 0⟩] sc pos) (wComp ls.length fr ti g tf te) :=
  imp (pe_comp (g := liftGE X.K ls.length (ls ++ fs).length g) (tf := liftT X.K tf) (te := lift X.K te) hc (chk_ok B) hi (fun cl C pn ex s H => hg cl C pn ex s H (chk_ok B).nd) hf he hs) fun σ H Q h => lift_comp (n := (ls ++ fs).length) (by rw [List.length_append, (chk_ok B).lenF]) h
end
end L3
end
section
set_option Elab.async false
set_option linter.all false
set_option maxRecDepth 100000
set_option maxHeartbeats 3999999
namespace L3
open PySem PySem.Spec PyProof.Rows L2
section
variable {X : Cx}
noncomputable def tyD : D → String
  | .non => "NoneType"
  | .bl _ => "bool"
  | .int _ => "int"
  | .str _ => "str"
  | .tup _ => "tuple"
  | .lst _ => "list"
  | .scr _ => "list"
  | .dic _ _ => "dict"
  | .dicT _ _ _ => "dict"
  | .exc _ _ => "NoneType"
  | .rws _ => "NoneType"
inductive Ty4 : String → Prop
  | t : Ty4 "tuple"
  | b : Ty4 "bool"
  | i : Ty4 "int"
  | s : Ty4 "str"
noncomputable def isT (T : String) (d : D) : Bool := tyD d == T || (T == "int" && tyD d == "bool")
noncomputable def rIsi (K : PySem.W.Frag) (T : String) : List V → Hp → VK → Prop := fun xs H Q => ∃ x t b, xs = [x, .ty T] ∧ (TyOf K H x t ∨ (t = .type "tuple" ∧ ∃ a ys, x = .ref a ∧ SqT K H a ys) ∨ (t = .type "list" ∧ ∃ a ys, x = .ref a ∧ SqL K H a ys)) ∧ PySem.W.kitOne K t (.type T) = some b ∧ Q (.bl b) H
theorem call_isi {T : String} : CallR X (.builtin "isinstance") (rIsi X.K T) := by
  intro pins s σ H xs us Q I r h
  obtain ⟨x, t, b, rfl, ty, e, q⟩ := h
  obtain ⟨u, w', rfl, r1, r2⟩ := vals2 r
  obtain rfl : w' = Value.type T := r2
  rcases ty with ty | ⟨rfl, a, ys, rfl, hq⟩ | ⟨rfl, a, ys, rfl, hq⟩
  · exact isinst_ok I r1 ty e fun tk => ⟨.bl b, H, I.tok tk, rfl, q⟩
  · cases r1
    obtain ⟨its, _, p, _⟩ := I.tuple hq
    obtain ⟨o, h1, h2, _⟩ := p
    exact PySem.W.kia_one PySem.W.kitx_tuple I.kIn ⟨o, h1, h2⟩ e (fun z => nomatch z) fun tk => ⟨.bl b, H, I.tok tk, rfl, q⟩
  · cases r1
    obtain ⟨its, _, p, _⟩ := I.list hq
    obtain ⟨o, n, h1, h2, _⟩ := p
    exact PySem.W.kia_one PySem.W.kitx_list I.kIn ⟨o, h1, h2⟩ e (fun z => nomatch z) fun tk => ⟨.bl b, H, I.tok tk, rfl, q⟩
noncomputable def notEx : D → Prop
  | .exc _ _ => False
  | .dicT _ _ _ => False
  | .rws _ => False
  | _ => True
noncomputable def wIsi (T : String) (t : WE) : WE := fun ρ Q => t ρ fun d => notEx d ∧ Q (.bl (isT T d))
theorem kit4 {K : PySem.W.Frag} {T : String} (h : Ty4 T) (d : D) : PySem.W.kitOne K (.type (tyD d)) (.type T) = some (isT T d) := by
  cases h <;> cases d <;> with_unfolding_all rfl
theorem ty_of {K : PySem.W.Frag} {S : Addr → Prop} {H : Hp} {d : D} {v : V} (hne : notEx d) (h : Dn K S H d v) : ∃ t, t = Value.type (tyD d) ∧ (TyOf K H v t ∨ (t = .type "tuple" ∧ ∃ a ys, v = .ref a ∧ SqT K H a ys) ∨ (t = .type "list" ∧ ∃ a ys, v = .ref a ∧ SqL K H a ys)) := by
  refine ⟨_, rfl, ?_⟩
  cases d <;> simp only [Dn] at h
  · subst h; exact .inl .non
  · subst h; exact .inl (.bl _)
  · subst h; exact .inl (.int _)
  · subst h; exact .inl (.str _)
  · obtain ⟨a, xs, rfl, hq, _⟩ := h; exact .inr (.inl ⟨rfl, a, xs, rfl, (SqT.of hq)⟩)
  · obtain ⟨a, xs, rfl, hq, _⟩ := h; exact .inl (.lst hq)
  · obtain ⟨a, rfl, hq⟩ := h; exact .inr (.inr ⟨rfl, a, _, rfl, hq.sq⟩)
  · obtain ⟨a, xs, rfl, hq, _⟩ := h; exact .inl (.dK hq)
  · exact hne.elim
  · exact hne.elim
  · exact hne.elim
theorem isi3 {T : String} {x : Str} {e : Expr} {t : WE} {p p2 pos : Pos} (hT : Ty4 T) (hm : X.mg "isinstance" = none) (hmT : X.mg x = none) (hv : bootBuiltins x = some (.type T)) (he : PE3 X e t) (hg : Gl X "isinstance" := by rfl) (hgT : Gl X x := by rfl) (hn : x ≠ "__name__" := by decide) (hdb : (x == ("__debug__" : Str)) = false := by decide)
    (hs : starEach [e, .Name x p2] X.env = (false, eval e X.env) :: starEach [.Name x p2] X.env := by rfl) (hs2 : starEach [.Name x p2] X.env = (false, eval (.Name x p2) X.env) :: starEach [] X.env := by rfl) (hpl : (backTo pos (starEach [.Name x p2] X.env)).any (·.1) = false := by rfl) :
    PE3 X (.Call (.Name "isinstance" p) [e, .Name x p2] [] pos) (wIsi T t) :=
  imp (pe_callB (call_isi (T := T)) hg hm PyProof.Rows.boot_isinstance (pa_cons he (pa_cons (pe_bltn (v := .ty T) hgT hmT hv rfl hn hdb) pa_nil hs2) hs) (by decide) (by decide) hs hpl) fun σ H Q hq45 => by
    obtain ⟨S, ρ, Q3, fc, sl, ht, k⟩ := hq45
    refine ⟨S, ρ, _, fc, sl, ht, fun v H1 d s1 d1 q1 => ?_⟩
    obtain ⟨tt, e1, e2⟩ := ty_of q1.1 d1
    refine ⟨v, tt, isT T d, rfl, e2, ?_, k _ H1 (.bl _) s1 (by simp only [Dn]) q1.2⟩
    rw [e1]; exact kit4 hT d
noncomputable def blsOf : List D → Option (List Bool)
  | [] => some []
  | .bl b :: r => (blsOf r).map (b :: ·)
  | _ :: _ => none
theorem range_all (bs : List Bool) : (List.range bs.length).all (fun i => bs.getD i true) = bs.all id := by
  induction bs with
  | nil => rfl
  | cons b bs ih => rw [List.length_cons, List.range_succ_eq_map, List.all_cons, List.all_map, List.all_cons, ← ih]; rfl
noncomputable def blF (f : List Bool → Bool) : F1
  | [.lst ds], Q => (match blsOf ds with | some bs => Q (.bl (f bs)) | none => False)
  | _, _ => False
noncomputable def rSort : List V → Hp → VK → Prop := fun xs H Q => ∃ a ns, xs = [.ref a] ∧ H a = some (.lst (ns.map V.int)) ∧ ns.length < 64 ∧ ∀ ns' : List Int, ns'.Perm ns → ns'.Pairwise (· ≤ ·) → ∀ p, H p = none → Q (.ref p) (upd H p (.lst (ns'.map V.int)))
theorem call_sorted3 : CallR X (.builtin "sorted") rSort := by
  intro pins s σ H xs us Q I r h
  obtain ⟨a, ns, rfl, ha, h64, q⟩ := h
  obtain ⟨u, rfl, ru⟩ := vals1 r
  cases ru
  obtain ⟨its, rv, p, hz⟩ := I.list (SqL.of ha)
  have hi := intsAre_of rv
  have hlen : its.length = ns.length := by have := rv.length; rw [List.length_map] at this; exact this.symm
  refine sorted_ints p.isList hi (by omega) fun out ns' a1 a2 a3 => ?_
  have hfr : H (s.heap.objs.size + 1) = none := I.hok.fresh (Nat.le_succ _)
  obtain ⟨e1, hat⟩ := sortedAll_at s.heap its out
  have hz2 : ns'.length ≤ sizeLine := by rw [a2.length_eq, sizeLine_eq]; omega
  have I1 : Inv X pins σ (upd H (s.heap.objs.size + 1) (.lst (ns'.map V.int))) { s with heap := sortedAll s.heap its out } :=
    I.laid (t' := s.toks) (fun b o e => sortedAll_old e) (Nat.le_succ _) ⟨by rw [List.length_map]; exact hz2, out.toList, e1, vals_ints a1, by simpa [seqObj] using hat⟩
  exact ⟨.ref _, _, I1, rfl, q ns' a2 a3 _ hfr⟩
noncomputable def intsOf : List D → Option (List Int)
  | [] => some []
  | .int b :: r => (intsOf r).map (b :: ·)
  | _ :: _ => none
theorem intsOf_map : ∀ bs : List Int, intsOf (bs.map D.int) = some bs
  | [] => rfl
  | b :: bs => by rw [List.map_cons, intsOf, intsOf_map bs]; rfl
theorem intsOf_of : ∀ {ds : List D} {bs : List Int}, intsOf ds = some bs → ds = bs.map D.int
  | [], bs, h => by cases h; rfl
  | .int b :: r, bs, h => by
    rw [intsOf] at h
    cases q : intsOf r with
    | none => rw [q] at h; cases h
    | some cs => rw [q] at h; cases h; rw [List.map_cons, intsOf_of q]
  | .non :: r, bs, h => by cases h
  | .bl _ :: r, bs, h => by cases h
  | .str _ :: r, bs, h => by cases h
  | .tup _ :: r, bs, h => by cases h
  | .lst _ :: r, bs, h => by cases h
  | .scr _ :: r, bs, h => by cases h
  | .dic _ _ :: r, bs, h => by cases h
  | .dicT _ _ _ :: r, bs, h => by cases h
noncomputable def sortF : F1
  | [.lst ds], Q => (match intsOf ds with | some ns => ns.length < 64 ∧ ∀ ns' : List Int, ns'.Perm ns → ns'.Pairwise (· ≤ ·) → Q (.lst (ns'.map D.int)) | none => False)
  | _, _ => False
theorem c3_sort {K : PySem.W.Frag} : C3F K rSort sortF := by
  intro S H xs ds Q3 Q fc hd hf k
  match ds, hf with
  | [.lst es], hf =>
    obtain ⟨v, r, rfl, h1, h2⟩ := hd.uncons
    simp only [Dns] at h2
    subst h2
    simp only [Dn] at h1
    obtain ⟨a, ys, rfl, ha, sa, da⟩ := h1
    have hf2 : (match intsOf es with | some ns => ns.length < 64 ∧ ∀ ns' : List Int, ns'.Perm ns → ns'.Pairwise (· ≤ ·) → Q3 (.lst (ns'.map D.int)) | none => False) := hf
    clear hf
    cases q : intsOf es with
    | none => rw [q] at hf2; exact hf2.elim
    | some ns =>
      rw [q] at hf2
      have e := intsOf_of q
      subst e
      have e2 := Dns.ints.mp da
      subst e2
      exact ⟨a, ns, rfl, ha, hf2.1, fun ns' h1 h2 p hp => k p _ _ _ hp upd_same (same_upd hp) (Dns.ints.mpr rfl) (hf2.2 ns' h1 h2)⟩
theorem sorted3 {p pos : Pos} {e : Expr} {t : WA} (hm : X.mg "sorted" = none) (ha : PA3 X [e] t) (hg : Gl X "sorted" := by rfl)
    (he : starEach [e] X.env = (false, eval e X.env) :: starEach [] X.env := by rfl) : PF3 X (.Call (.Name "sorted" p) [e] [] pos) (wCB sortF t) := callBF3 call_sorted3 c3_sort PyProof.Rows.boot_sorted hg hm ha (by decide) (by decide) he (by rfl)
end
end L3
end
section
set_option Elab.async false
set_option linter.all false
namespace L3
open PySem PySem.Spec PyProof.Rows L2
section
variable {i j : Int} {a b : List D} {Q : D → Prop}
end
end L3
end
section
set_option Elab.async false
set_option linter.all false
set_option maxRecDepth 100000
set_option maxHeartbeats 3999999
namespace L3
open PySem PySem.Spec PyProof.Rows L2
section
variable {X : Cx}
theorem pe_range1 {a : Expr} {ta : TA} {p pos : Pos} (hg : Gl X "range") (hm : X.mg "range" = none) (ha : PA X [a] ta) (hs : starEach [a] X.env = [(false, eval a X.env)] := by rfl) :
    PE X (.Call (.Name "range" p) [a] [] pos) (fun σ H Q => ta σ H fun vs H1 => ∃ j : Int, vs = [.int j] ∧ ∀ p, H1 p = none → Q (.ref p) (upd H1 p (.rng 0 j))) := by
  intro pins s σ H Q I h
  refine Call_ (ld_blt I hg hm PyProof.Rows.boot_range (PyProof.Rows.callWith_type1 (thn (ha pos pins s σ H _ I h) fun us s1 ⟨vs, H1, I1, r1, q1⟩ => ?_) hs rfl))
  obtain ⟨j, e, q⟩ := q1
  subst e
  obtain ⟨u, rfl, ru⟩ := vals1 r1
  obtain ⟨t, rfl⟩ := ru
  refine call_range_1 ?_
  exact ⟨.ref s1.heap.objs.size, _, I1.laid (o := .rng 0 j) (fun b o e => Heap.get?_push_of_some _ e) (Nat.le_refl _) ⟨_, _, _, Heap.get?_push_size _ rfl⟩, rfl, q _ (I1.hok.fresh (Nat.le_refl _))⟩
theorem vals_rng {lo : Int} {n : Nat} {acc : Array Value} (h : ItemsOf (fun i v => ∃ t, v = .int (lo + (i : Nat) * 1) t) acc n) : Vals ((rngI lo n).map V.int) acc.toList := by
  obtain ⟨hz, hv⟩ := h
  have key : ∀ (l : List Value) (k : Nat) (m : Nat), l.length = m → (∀ (j : Nat) (v : Value), l[j]? = some v → ∃ t, v = Value.int (lo + ((k + j : Nat) : Int)) t) → Vals (((List.range' k m).map fun i : Nat => lo + (i : Int)).map V.int) l := by
    intro l
    induction l with
    | nil => intro k m hm _; subst hm; exact .nil
    | cons v l ih =>
      intro k m hm hh
      subst hm
      rw [List.length_cons, List.range'_succ, List.map_cons, List.map_cons]
      refine .cons ?_ (ih (k + 1) l.length rfl fun j w e => ?_)
      · obtain ⟨t, e⟩ := hh 0 v (by simp)
        exact ⟨t, by simpa using e⟩
      · obtain ⟨t, e2⟩ := hh (j + 1) w (by simpa using e)
        exact ⟨t, by rw [e2]; congr 1; congr 1; congr 1; omega⟩
  have := key acc.toList 0 n (by simpa using hz) fun j v e => by
    obtain ⟨t, e2⟩ := hv j v (by simpa using e)
    exact ⟨t, by rw [e2]; simp⟩
  unfold rngI
  rw [List.range_eq_range']
  exact this
theorem call_list_rng (hc : X.calm = true) : CallR X (.type "list") (fun xs H Q => ∃ p j, xs = [.ref p] ∧ H p = some (.rng 0 j) ∧ -(2 ^ 62) ≤ j ∧ j ≤ 16777216 ∧ ∀ l, H l = none → Q (.ref l) (upd H l (.lst ((rngI 0 j.toNat).map V.int)))) := by
  intro pins s σ H xs us Q I r h
  obtain ⟨p, j, rfl, hp, h0, h1, q⟩ := h
  obtain ⟨u, rfl, ru⟩ := vals1 r
  cases ru
  obtain ⟨t, u, v, e⟩ := I.hok p _ hp
  have hsz : Builtin.Range.rangeSize 0 j 1 = (j.toNat : Int) := by rw [rangeSize_one]; split <;> omega
  refine call_list_range (a := 0) (b := j) (c := 1) (n := j.toNat) (I.ok.hd hc) e (small_one (by omega) (by omega) (by omega) (by omega)) hsz (by omega) fun h' tk acc' c' kp hn hit => ?_
  have hfr : H s.heap.objs.size = none := I.hok.fresh (Nat.le_refl _)
  have hv : Vals ((rngI 0 j.toNat).map V.int) acc'.toList := vals_rng hit
  refine ⟨.ref s.heap.objs.size, _, I.laid (o := .lst ((rngI 0 j.toNat).map V.int)) kp (Nat.le_refl _) ⟨?_, acc'.toList, c', hv, by simpa using hn⟩, rfl, q _ hfr⟩
  rw [List.length_map, rngI_length, sizeLine_eq]
  omega
noncomputable def wListR (t : WA) : WE := fun ρ Q => t ρ fun ds => match ds with
  | [.int j] => (-(2 ^ 62) ≤ j ∧ j ≤ 16777216) ∧ Q (.lst ((rngI 0 j.toNat).map D.int))
  | _ => False
theorem listRange3 {a : Expr} {t : WA} {p pos p2 pos2 : Pos} (hc : X.calm = true) (hm : X.mg "list" = none) (hmr : X.mg "range" = none) (ha : PA3 X [a] t) (hg : Gl X "list" := by rfl) (hgr : Gl X "range" := by rfl) (hs : starEach [a] X.env = [(false, eval a X.env)] := by rfl)
    (he : starEach [.Call (.Name "range" p2) [a] [] pos2] X.env = (false, eval (.Call (.Name "range" p2) [a] [] pos2) X.env) :: starEach [] X.env := by rfl) :
    PF3 X (.Call (.Name "list" p) [.Call (.Name "range" p2) [a] [] pos2] [] pos) (wListR t) :=
  imp (pe_callTy (call_list_rng hc) hg hm PyProof.Rows.boot_list (pa_cons (pe_range1 hgr hmr ha hs) pa_nil he) (by decide) (by decide) he (by rfl)) fun σ H Q hq46 => by
    obtain ⟨S, ρ, Q3, fc, sl, ht, k⟩ := hq46
    refine ⟨S, ρ, _, fc, sl, ht, fun vs H1 ds s1 d1 q1 => ?_⟩
    split at q1
    · rename_i j
      obtain ⟨v, r, rfl, h1, h2⟩ := d1.uncons
      simp only [Dns] at h2
      subst h2
      simp only [Dn] at h1
      subst h1
      refine ⟨j, rfl, fun p hp => ⟨p, j, rfl, upd_same, q1.1.1, q1.1.2, fun l hl => ?_⟩⟩
      have hl1 : H1 l = none := (same_upd hp).free hl
      exact k l _ _ _ (s1.free hl1) upd_same ((s1.trans (same_upd hp)).trans (same_upd hl)) (Dns.ints.mpr rfl) q1.2
    · exact q1.elim
noncomputable def lookD (ks : List Key) (ds : List D) (k : Key) : Option D := ((ks.zip ds).find? fun kv => decide (kv.1 = k)).map (·.2)
theorem look_rel {K : PySem.W.Frag} {S : Addr → Prop} {H : Hp} {k : Key} : ∀ {ks : List Key} {ds : List D} {xs : List V}, ks.length = xs.length → Dns K S H ds xs →
    (∀ d, lookD ks ds k = some d → ∃ v, valV (ks.zip xs) k = some v ∧ Dn K S H d v) ∧ (lookD ks ds k = none → valV (ks.zip xs) k = none)
  | [], ds, xs, _, _ => by
    refine ⟨fun d e => ?_, fun _ => ?_⟩
    · simp [lookD] at e
    · simp [valV]
  | q :: ks, ds, xs, hl, dn => by
    cases ds with
    | nil => simp only [Dns] at dn; subst dn; simp at hl
    | cons d0 ds =>
      obtain ⟨v, r, rfl, h1, h2⟩ := dn.uncons
      have ih := look_rel (k := k) (ks := ks) (ds := ds) (xs := r) (by simpa using hl) h2
      by_cases e : q = k
      · refine ⟨fun d ed => ?_, fun ed => ?_⟩
        · simp only [lookD, List.zip_cons_cons, List.find?_cons, e, decide_true, Option.map_some] at ed
          cases ed
          exact ⟨v, by simp [valV, e], h1⟩
        · simp [lookD, e] at ed
      · refine ⟨fun d ed => ?_, fun ed => ?_⟩
        · have ed' : lookD ks ds k = some d := by simpa [lookD, e] using ed
          obtain ⟨u, eu, du⟩ := ih.1 d ed'
          exact ⟨u, by simpa [valV, e] using eu, du⟩
        · have ed' : lookD ks ds k = none := by simpa [lookD, e] using ed
          simpa [valV, e] using ih.2 ed'
theorem ownDict3 {i : Nat} {x : Str} {pos pos' p : Pos} (hN : X.N.Nodup) (hi : X.N[i]? = some x := by rfl) (hx : Loc X.env.scope x := by first | exact .inl rfl | exact .inr rfl) (hs : swapsWith (.Dict [] [] p) (some (.Name x pos')) pos.line X.env = pure false := by rfl) (hf : X.fn x = true ∨ X.env.scope.names.lookup x = some .local := by first | exact .inl rfl | exact .inr rfl) :
    PS3 X (.Assign [.Name x pos'] (.Dict [] [] p) pos) (fun E ρ => E.nx (ρ.set i (.ow (.dic [] [])))) := impS (ps_set hN hi hx pe_dnewK hs hf) fun B σ H ⟨H₀, S, w, ρ, G, E, hl, st, ht, ok⟩ => fun p hp =>
  ok.nx _ _ _ _ (by rw [List.length_set]; exact hl) (st.set_ow (d := .dic [] []) (by rw [hl]; exact ix_lt hi) (same_upd hp) hp ⟨[], upd_same, rfl, Dns.nil⟩) ht
noncomputable def keyD : D → Option Key
  | .int i => some (.inl i)
  | .str x => some (.inr x)
  | _ => none
theorem key_dn {K : PySem.W.Frag} {S : Addr → Prop} {H : Hp} {d : D} {v : V} {k : Key} (h : Dn K S H d v) (e : keyD d = some k) : v = kV k := by
  cases d <;> simp only [keyD] at e <;> cases e <;> simp only [Dn] at h <;> exact h
noncomputable def ixDF : F2 := fun x y Q => match x, keyD y with
  | .dic ks ds, some k => (match lookD ks ds k with | some d => Q d | none => False)
  | _, _ => False
theorem ixD3 {o i : Expr} {pos : Pos} {to ti : WE} (hu : X.A.units + 1 < cLine) (ho : PE3 X o to) (hi : PE3 X i ti) (hs : NoSl i := by intro _ _; rfl) : PE3 X (.Subscript o i pos) (wBin ixDF to ti) := imp (pe_dget hu ho hi hs) fun σ H Q hq47 => by
  obtain ⟨S, ρ, Q3, fc, sl, ht, k⟩ := hq47
  refine ⟨S, ρ, _, fc, sl, ht, fun v H1 d s1 d1 q1 => ?_⟩
  refine ⟨S, ρ, _, fc_same fc s1, Sl.fits (.same s1) sl, q1, fun u H2 d2 s2 dn2 q2 => ?_⟩
  unfold ixDF at q2
  split at q2
  · rename_i ks ds kk ek
    have d1' := Dn.fits (.same s2) _ _ d1
    simp only [Dn] at d1'
    obtain ⟨a, xs, rfl, ha, sa, hl, da⟩ := d1'
    split at q2
    · rename_i d3 e3
      obtain ⟨v3, ev, dv⟩ := (look_rel hl da).1 d3 e3
      have eu := key_dn dn2 ek
      subst eu
      refine ⟨a, v3, rfl, ?_, k v3 H2 d3 (s1.trans s2) dv q2⟩
      have g := DGet.k (k := kk) ha
      rw [ev] at g
      exact g
    · exact q2.elim
  · exact q2.elim
noncomputable def wPutN (i : Nat) (t : WX) (tk : WE) : WS := fun E ρ => t ρ fun ρ' d => (match ρ'[i]? with | some (.ow (.dic _ _)) => True | _ => False) ∧ tk (vAll ρ') fun kd => match ρ'[i]?, keyD kd with
  | some (.ow (.dic ks ds)), some k => (lookD ks ds k = none ∧ ds.length < sizeLine) ∧ E.nx (ρ'.set i (.ow (.dic (ks ++ [k]) (ds ++ [d]))))
  | _, _ => False
theorem putN3 {i : Nat} {x : Str} {e k : Expr} {t : WX} {tk : WE} {pos pos' p : Pos} (hu : X.A.units + 1 < cLine) (he : PX3 X e t) (hk : PE3 X k tk)
    (hN : X.N[i]? = some x := by rfl) (hv : Vis X.env.scope x := by first | exact Or.inl rfl | exact Or.inr (Or.inl rfl) | exact Or.inr (Or.inr rfl)) (hd : (x == ("__debug__" : Str)) = false := by decide) (hcd : (x == ("__classdict__" : Str)) = false := by decide)
    (hs : swapsWith e (some (.Subscript (.Name x p) k pos')) pos.line X.env = pure false := by rfl) :
    PS3 X (.Assign [.Subscript (.Name x p) k pos'] e pos) (wPutN i t tk) := impS (ps_dput hu (pe_var hN hv hd hcd) hk he hs) fun B σ H hq48 => by
  obtain ⟨H₀, S, w, ρ, G, E, hl, st, ht, ok⟩ := hq48
  refine ⟨H₀, S, w, ρ, G, _, hl, st, ht, fun w' v H' ρ' d st' d' q' => ?_⟩
  obtain ⟨q0, q'⟩ := q'
  split at q0
  · rename_i ks0 ds0 e0
    obtain ⟨a0, _, _⟩ := st'.own i _ e0
    refine ⟨_, a0, S, vAll ρ', _, st'.fcH, st'.all, q', fun kv H2 dk s2 dk2 q2 => ?_⟩
    split at q2
    · rename_i ks ds kk e1 ek
      have st2 := st'.same s2
      obtain ⟨a, b, c⟩ := st2.own i _ e1
      obtain ⟨xs, hp, hlen, dn⟩ := c
      have eu := key_dn dk2 ek
      subst eu
      have hno := (look_rel (k := kk) hlen dn).2 q2.1.1
      have nS : ¬ SO S w' ρ' (w' i) := fun ⟨_, z⟩ => z i _ e1 rfl
      have hz : (ks.zip xs).length < sizeLine := by
        rw [List.length_zip, hlen, Nat.min_self, ← dn.len]; exact q2.1.2
      have eput : putK (ks.zip xs) kk v = (ks ++ [kk]).zip (xs ++ [v]) := by
        rw [putK_new v hno, List.zip_append hlen]; rfl
      have F : Fits X.K (SO S w' ρ') (SO S w' ρ') H2 (upd H2 (w' i) (.dK (putK (ks.zip xs) kk v))) := .upd (.inr (.inl ⟨_, hp⟩)) nS
      refine ⟨w' i, _, rfl, DPut.k hp hz, ok.nx w' σ _ _ hl (st2.write (d' := .dic (ks ++ [kk]) (ds ++ [d])) e1 ⟨xs ++ [v], ?_, by simp [hlen], Dns.fits F _ _ (dn.append (Dns.one (Dn.fits (.same s2) _ _ d')))⟩) q2.2⟩
      rw [upd_same, eput]
    · exact q2.elim
  · exact q0.elim
noncomputable def wSetF (i : Nat) (t : WE) : WS := fun E ρ => t (vAll ρ) fun d => (match d with | .lst ds => imms ds = true | _ => False) ∧ E.nx (ρ.set i (.ro d))
theorem setF3 {i : Nat} {x : Str} {e : Expr} {t : WE} {pos pos' : Pos} (hN : X.N.Nodup) (he : PF3 X e t) (hi : X.N[i]? = some x := by rfl) (hx : Loc X.env.scope x := by first | exact .inl rfl | exact .inr rfl) (hs : swapsWith e (some (.Name x pos')) pos.line X.env = pure false := by rfl) (hf : X.fn x = true ∨ X.env.scope.names.lookup x = some .local := by first | exact .inl rfl | exact .inr rfl) :
    PS3 X (.Assign [.Name x pos'] e pos) (wSetF i t) := impS (ps_set hN hi hx he hs hf) fun B σ H hq49 => by
 obtain ⟨H₀, S, w, ρ, G, E, hl, st, ht, ok⟩ := hq49
 exact ⟨_, vAll ρ, _, st.fcH, st.all, ht, fun p xs H' ds hp hp' s' d' q' => ok.nx w _ H' _ (by rw [List.length_set]; exact hl) ((st.same s').set_ro (d := .lst ds) (by rw [hl]; exact ix_lt hi) (by simp only [Dn]; exact ⟨p, xs, rfl, hp', st.fcO p hp, Dns.imm q'.1 d'⟩)) q'.2⟩
section
variable {i : Nat} {x : Str} {e : Expr} {p apos cpos : Pos} {t : WX}
end
end
end L3
end
section
set_option Elab.async false
set_option linter.all false
set_option maxRecDepth 100000
set_option maxHeartbeats 3999999
namespace L3
open PySem PySem.Spec PyProof.Rows L2
section
variable {X : Cx} {pins : List (Addr × Obj)} {σ : L2.St} {H : Hp} {s : Shared} {h' : Heap}
theorem turnT {t' : Nat} {ch : List Addr} {T : Addr} {xs : List V} {its : List Value} (I : Inv X pins σ H s) (k : ∀ b o, b ∉ ch → s.heap.get? b = some o → h'.get? b = some o) (hf : ∀ b ∈ ch, FpOk X pins H b)
    (hT : s.heap.objs.size ≤ T) (hv : Vals xs its) (hz : xs.length ≤ sizeLine) (ht : IsTup h' T its.toArray) (nd : NoD h' T) : Inv X pins σ (upd H T (.tup xs)) { s with heap := h', toks := t' } := by
  have fr : H T = none := I.hok.fresh hT
  have nT : ∀ {b : Addr} {o : Obj}, s.heap.get? b = some o → b ≠ T := fun {b} {o} e z => Nat.lt_irrefl _ (Nat.lt_of_lt_of_le (Heap.lt_size e) (z ▸ hT))
  have live : ∀ {b : Addr} {u : HO}, H b = some u → b ∉ ch := fun {b} {u} e z => by rw [(hf _ z).1] at e; cases e
  refine I.call' (s' := { s with heap := h', toks := t' }) (ch := ch) rfl ⟨fun b o e _ _ hx => k b o hx e, fun b o e _ _ hx => ⟨o.slots, k b o hx e⟩, fun b o e n _ => by rw [upd_ne (nT e)]; exact n, fun b o e hx => ⟨o, k b o hx e⟩,
    fun b ys e => by rw [upd_ne (ne_of_none e fr)]; exact e, fun b o u e => by rw [upd_ne (ne_of_none e fr)]; exact e, fun b ps e => by rw [upd_ne (ne_of_none e fr), e]⟩ ?_ I.bare fun b hb => ?_
  · intro b u e
    by_cases hb : b = T
    · subst hb; rw [upd_same] at e; cases e; exact ⟨hz, its, hv, ht, nd⟩
    · rw [upd_ne hb] at e
      refine (I.hok b u e).stay (fun c v hc q => k c v ?_ q) (fun c q => by rw [upd_ne (ne_of_none q fr)]; exact q) (fun c ys q => by rw [upd_ne (ne_of_none q fr)]; exact q) fun c o u q => by rw [upd_ne (ne_of_none q fr)]; exact q
      rcases hc with rfl | hc
      · exact live e
      · exact live hc
  · obtain ⟨_, f1, _, f3, f4, f5⟩ := hf b hb
    exact ⟨f3, f1, f4, f5⟩
theorem turnM {t' : Nat} {ch : List Addr} (I : Inv X pins σ H s) (k : ∀ b o, b ∉ ch → s.heap.get? b = some o → h'.get? b = some o) (hf : ∀ b ∈ ch, FpOk X pins H b) : Inv X pins σ H { s with heap := h', toks := t' } := by
  have live : ∀ {b : Addr} {u : HO}, H b = some u → b ∉ ch := fun {b} {u} e z => by rw [(hf _ z).1] at e; cases e
  refine I.call' (s' := { s with heap := h', toks := t' }) (ch := ch) rfl ⟨fun b o e _ _ hx => k b o hx e, fun b o e _ _ hx => ⟨o.slots, k b o hx e⟩, fun b o e n _ => n, fun b o e hx => ⟨o, k b o hx e⟩,
    fun b ys e => e, fun b o u e => e, fun b ps e => e⟩ ?_ I.bare fun b hb => ?_
  · intro b u e
    refine (I.hok b u e).stay (fun c v hc q => k c v ?_ q) (fun c q => q) fun c ys q => q
    rcases hc with rfl | hc
    · exact live e
    · exact live hc
  · obtain ⟨_, f1, _, f3, f4, f5⟩ := hf b hb
    exact ⟨f3, f1, f4, f5⟩
end
noncomputable def Itp (go : Nat → Hp → Prop) (Y : Nat → Hp → List V → Prop) (stop : Nat → Hp → Prop) : It := ⟨go, fun i H x H' => ∃ T vs, x = .ref T ∧ H T = none ∧ H' = upd H T (.tup vs) ∧ Y i H vs, stop⟩
noncomputable def Item2 (P : Program) (w : World) (A : Around) (it : Addr) (wr : List Addr) (n : Nat) (Pt : Nat → Array Value → Prop) (St : Nat → Heap → Prop) (Mid : Nat → Addr → Heap → Prop) : Prop :=
  ∀ i (s : Shared) (Q : Option Value → Shared → Prop) (E : Value → Shared → Prop), i < n → St i s.heap →
    (∀ T vals h' tk, Pt i vals → s.heap.objs.size ≤ T → h'.IsTuple T vals → NoD h' T → Mid i T h' → (∀ b o, b ∉ wr → s.heap.get? b = some o → h'.get? b = some o) → Q (some (.ref T)) { s with heap := h', toks := tk }) →
    wpAny (model P w) A (pyNext (.ref it)) Q E s
theorem turn_pairs {P : Program} {w : World} {K : PySem.W.Frag} {es : List Expr} {kk : Nat} {tp : Pos} {go : Nat → Hp → Prop} {Y : Nat → Hp → List V → Prop} {stop : Nat → Hp → Prop} {fp : List Addr} {it : Addr} {tn : Nat → Heap → Prop} (mem : it ∈ fp)
    (obj : ∀ i h, tn i h → ∀ b ∈ fp, ∃ o, h.get? b = some o ∧ ∀ v, o.data ≠ .cell v) (keep : ∀ i h h', tn i h → (∀ b ∈ fp, ∀ o, h.get? b = some o → h'.get? b = some o) → tn i h')
    (wk : ∀ (X : Cx), X.prog = P → X.w = w → X.K = K → X.calm = true → ∀ (i : Nat) (pins : List (Addr × Obj)) (s : Shared) (σ : L2.St) (H : Hp), Inv X pins σ H s → tn i s.heap → go i H ∨ stop i H →
      ∃ fp2 wr n Pt St Mid, (WalksT P w X.A it fp2 wr n Pt St Mid ∧ Item2 P w X.A it wr n Pt St Mid) ∧ St i s.heap ∧ (∀ b ∈ wr, b ∈ fp) ∧ (∀ h, St (i + 1) h → tn (i + 1) h) ∧
        (go i H → i < n ∧ ∀ vals, Pt i vals → ∃ vs, vs.length ≤ sizeLine ∧ Vals vs vals.toList ∧ Y i H vs) ∧ (stop i H → i = n))
    (self : ∀ (A : Around) (i : Nat) (s : Shared) (Q : Value → Shared → Prop) (E : Value → Shared → Prop), tn i s.heap → Q (.ref it) s → wpAny (model P w) A (pyIter (.ref it)) Q E s) :
    Turn P w K (.Tuple es kk tp) (Itp go Y stop) fp it tn where
  mem := mem
  obj := obj
  keep := keep
  self := self
  item := by
    intro X hP hw hK hc i pins s σ H E I hf st hg
    obtain ⟨fp2, wr, n, Pt, St, Mid, ⟨W, J2⟩, hs, sub, nx, ok, _⟩ := wk X hP hw hK hc i pins s σ H I st (.inl hg)
    obtain ⟨hi, ok⟩ := ok hg
    refine J2 i s _ _ hi hs fun T vals h1 tk hp hT ht nd hm k1 => ⟨.ref T, rfl, W.go es kk tp i T _ _ _ hm fun h2 s2 k2 => ?_⟩
    obtain ⟨vs, hz, hv, hy⟩ := ok vals hp
    obtain ⟨o, eo, c, d⟩ := ht
    have ht2 : IsTup h2 T vals.toList.toArray := ⟨o, k2 T o (W.apart i T _ hm) eo, c, by simpa using d⟩
    have I2 : Inv X pins σ (upd H T (.tup vs)) { s with heap := h2, toks := tk } := turnT (t' := tk) (ch := wr) I (fun b o hb e => k2 b o hb (k1 b o hb e)) (fun b hb => hf b (sub b hb)) hT hv hz ht2 (nd.at eo (k2 T o (W.apart i T _ hm) eo))
    refine ⟨.ref T, upd H T (.tup vs), I2, rfl, ⟨T, vs, rfl, I.hok.fresh hT, rfl, hy⟩, nx h2 s2, fun b hb => ?_⟩
    obtain ⟨ob, eb, _⟩ := obj _ _ st b hb
    have nb : b ≠ T := fun z => Nat.lt_irrefl _ (Nat.lt_of_lt_of_le (Heap.lt_size eb) (z ▸ hT))
    rw [upd_ne nb]
    exact (hf b hb).1
  done := by
    intro X hP hw hK hc i pins s σ H E I hf st hg
    obtain ⟨fp2, wr, n, Pt, St, Mid, ⟨W, _⟩, hs, sub, nx, _, ok⟩ := wk X hP hw hK hc i pins s σ H I st (.inr hg)
    obtain rfl := ok hg
    exact W.done s _ _ hs fun h2 tk k2 => ⟨rfl, turnM (t' := tk) (ch := wr) I k2 fun b hb => hf b (sub b hb)⟩
noncomputable def Iel (K : PySem.W.Frag) (l : Addr) : It := Itp (fun i H => ∃ xs v, SqL K H l xs ∧ xs[i]? = some v) (fun i H vs => ∃ v, vs = [.int i, v] ∧ ∀ xs, SqL K H l xs → xs[i]? = some v) (fun i H => ∃ xs, SqL K H l xs ∧ xs.length = i)
noncomputable def Iet (K : PySem.W.Frag) (l : Addr) : It := Itp (fun i H => ∃ xs v, SqT K H l xs ∧ xs[i]? = some v) (fun i H vs => ∃ v, vs = [.int i, v] ∧ ∀ xs, SqT K H l xs → xs[i]? = some v) (fun i H => ∃ xs, SqT K H l xs ∧ xs.length = i)
theorem two_line : [V.int 0, V.int 0].length ≤ sizeLine := by rw [sizeLine_eq]; decide
theorem item2_enumL {prog : Program} {w : World} {A : Around} (e it l : Addr) (hei : e ≠ it) (hle : l ≠ e) (hli : l ≠ it) (items : Array Value) : Item2 prog w A e [e, it] items.size (fun i vals => ∃ t x, items[i]? = some x ∧ vals = #[.int i t, x])
    (fun i h => (∃ old, IsEnum h e it i old) ∧ h.IsListIter it l i ∧ h.IsList l items) (fun i T h => (∃ x, IsEnumOut h e it ((i : Int) + 1) x T) ∧ h.IsListIter it l (i + 1) ∧ h.IsList l items ∧ T ≠ e ∧ T ≠ it) := by
  intro i s Q E hi ⟨⟨old, a1⟩, a2, a3⟩ q
  have ix : items[i]? = some items[i] := Array.getElem?_eq_getElem hi
  refine wpAny_pyNext_enum_item a1 a2 a3 ix hei fun g b1 b2 b3 _ kp => ?_
  have l1 : e < s.heap.objs.size := Heap.lt_size a1
  have l2 : it < s.heap.objs.size := by obtain ⟨_, y, _⟩ := a2; exact Heap.lt_size y
  refine q s.heap.objs.size #[.int i s.toks, items[i]] g (s.toks + 1) ⟨_, _, ix, rfl⟩ (Nat.le_refl _) ⟨_, b3, rfl, _, rfl⟩ (NoD.is b3 rfl) ⟨⟨_, b1⟩, b2, a3.at fun o y => kp l o hle hli y, Nat.ne_of_gt l1, Nat.ne_of_gt l2⟩ fun b o hb y => ?_
  simp only [List.mem_cons, List.not_mem_nil, or_false, not_or] at hb
  exact kp b o hb.1 hb.2 y
theorem item2_enumD {prog : Program} {w : World} {A : Around} {it : Addr} {fp : List Addr} {n : Nat} {P : Nat → Value → Prop} {St : Nat → Heap → Prop} (D : Draws prog w A.in1 it fp n P St) (e : Addr) (hei : e ≠ it) (hef : e ∉ fp) :
    Item2 prog w A e [e, it] n (fun i vals => ∃ t x, P i x ∧ vals = #[.int i t, x]) (fun i h => (∃ old, IsEnum h e it i old) ∧ St i h) (fun i T h => (∃ x, IsEnumOut h e it ((i : Int) + 1) x T) ∧ St (i + 1) h ∧ T ≠ e ∧ T ≠ it) := by
  intro i s Q E hi ⟨⟨old, a1⟩, a2⟩ q
  refine wpAny_pyNext_enum_itemD D a1 a2 hi hei hef fun x g tk px b1 b2 b3 _ kp => ?_
  have l1 : e < s.heap.objs.size := Heap.lt_size a1
  have l2 : it < s.heap.objs.size := by obtain ⟨_, y⟩ := D.live _ _ a2; exact Heap.lt_size y
  refine q s.heap.objs.size #[.int i tk, x] g (tk + 1) ⟨_, _, px, rfl⟩ (Nat.le_refl _) ⟨_, b3, rfl, _, rfl⟩ (NoD.is b3 rfl) ⟨⟨_, b1⟩, b2, Nat.ne_of_gt l1, Nat.ne_of_gt l2⟩ fun b o hb y => ?_
  simp only [List.mem_cons, List.not_mem_nil, or_false, not_or] at hb
  exact kp b o hb.1 hb.2 y
theorem turn_enumL {P : Program} {w : World} {K : PySem.W.Frag} {es : List Expr} {kk : Nat} {tp : Pos} {e it l : Addr} (hei : e ≠ it) (hle : l ≠ e) (hli : l ≠ it) :
    Turn P w K (.Tuple es kk tp) (Iel K l) [e, it] e (fun i h => (∃ old, IsEnum h e it i old) ∧ h.IsListIter it l i) := by
  refine turn_pairs (by simp) (fun i h st b hb => ?_) (fun i h h2 st k => ?_) (fun X hP hw hK hc i pins s σ H I st hg => ?_) (fun A i s Q E st q => ?_)
  · obtain ⟨⟨old, a⟩, o, c, d1, d2⟩ := st
    rcases List.mem_cons.mp hb with rfl | hq
    · exact ⟨_, a, fun v z => by cases z⟩
    · rw [List.mem_singleton.mp hq]; exact ⟨o, c, fun v z => by rw [d2] at z; cases z⟩
  · obtain ⟨⟨old, a⟩, b⟩ := st
    exact ⟨⟨old, k e (by simp) _ a⟩, b.at fun o q => k it (by simp) o q⟩
  · subst hP hw hK
    have hq : ∃ xs, SqL X.K H l xs := by rcases hg with ⟨xs, _, a, _⟩ | ⟨xs, a, _⟩ <;> exact ⟨xs, a⟩
    obtain ⟨xs, hq⟩ := hq
    obtain ⟨its, rv, p, hz⟩ := I.list hq
    have hl := rv.length
    refine ⟨_, _, _, _, _, _, ⟨WalksT.enumerate (I.ok.hd hc) e it l hei hle hli its.toArray, item2_enumL e it l hei hle hli its.toArray⟩, ⟨st.1, st.2, p.isList⟩, fun b hb => hb, fun h q => ⟨q.1, q.2.1⟩, fun g => ?_, fun g => ?_⟩
    · obtain ⟨ys, v, hy, hv⟩ := g
      obtain rfl := I.list_inj hy hq
      obtain ⟨u, hu, ru⟩ := rv.get hv
      have hlt : i < ys.length := (List.getElem?_eq_some_iff.mp hv).1
      refine ⟨by rw [List.size_toArray, ← hl]; exact hlt, fun vals q => ?_⟩
      obtain ⟨t, x, hx, rfl⟩ := q
      have ex : x = u := by
        have : its[i]? = some x := by simpa using hx
        rw [hu] at this; exact (Option.some.inj this).symm
      subst ex
      exact ⟨[.int i, v], two_line, .cons ⟨t, rfl⟩ (.cons ru .nil), v, rfl, fun zs hzs => by rw [I.list_inj hzs hq]; exact hv⟩
    · obtain ⟨ys, hy, e2⟩ := g
      obtain rfl := I.list_inj hy hq
      rw [List.size_toArray, ← hl, e2]
  · obtain ⟨⟨old, a⟩, b⟩ := st
    exact wpAny_pyIter_enum a q
section
variable {prog : Program} {w : World} {A : Around} {E : Value → Shared → Prop} {s : Shared}
theorem draw_tup {it t : Addr} {i : Nat} {items : Array Value} {x : Value} {Q : Value → Shared → Prop} (hit : s.heap.IsTupleIter it t i) (ht : s.heap.IsTuple t items) (hx : items[i]? = some x)
    (hQ : ∀ h', h'.IsTupleIter it t (i + 1) → Heap.SameBut it s.heap h' → Q x { s with heap := h' }) : wpAny (model prog w) A (Builtin.SmallTypes.nextOf (.ref it)) Q E s := by
  obtain ⟨⟨ol, hol, _, nl, hdl⟩, o, ho, hc, hd⟩ := And.intro ht hit
  refine wpAny_bind (m := callSpecial? _ _) (wpAny_callSpecial?_slot hit.typeIs F.slot_tuple_iterator_next (wpAny_call_entry F.slot_tuple_iterator_next hit.typeIs F.entry_tuple_iterator_next ?_ (F.args_tuple_iterator_next_1 _)))
  refine wpAny_bind (m := field _ 0) (wpAny_field ho hd (x := .ref t) rfl ?_)
  show wpAny _ _ (if false = true then _ else _) _ _ s
  rw [if_neg Bool.false_ne_true]
  refine wpAny_bind (m := field _ 1) (wpAny_field ho hd (x := .int i 0) rfl (wpAny_bind (m := seqItems? _) (wpAny_seqItems hol hdl ?_)))
  simp only [hx, Int.toNat_natCast]
  refine wpAny_bind (wpAny_setField ho hd (by simp) (wpAny_pure ⟨x, rfl, wpAny_pure (hQ _ ⟨_, Heap.get?_update_self _ ho (Obj.isFreed_of_fields (Obj.data_mapFields hd _)), (Obj.cls_mapFields ..).trans hc, ?_⟩ (Heap.SameBut.update ..))⟩))
  rw [Obj.data_mapFields hd]
  simp [rawInt]
theorem draw_tupE {it t : Addr} {i : Nat} {items : Array Value} {Q : Value → Shared → Prop} (hh : A.handled = none) (hit : s.heap.IsTupleIter it t i) (ht : s.heap.IsTuple t items) (hx : items[i]? = none)
    (hE : ∀ h' e, Heap.ExtBut it s.heap h' → (∃ o, h'.get? e = some o ∧ o.cls = .type "StopIteration") → E (.ref e) { s with heap := h' }) : wpAny (model prog w) A (Builtin.SmallTypes.nextOf (.ref it)) Q E s := by
  obtain ⟨⟨ol, hol, _, nl, hdl⟩, o, ho, hc, hd⟩ := And.intro ht hit
  refine wpAny_bind (m := callSpecial? _ _) (wpAny_callSpecial?_slot hit.typeIs F.slot_tuple_iterator_next (wpAny_call_entry F.slot_tuple_iterator_next hit.typeIs F.entry_tuple_iterator_next ?_ (F.args_tuple_iterator_next_1 _)))
  refine wpAny_bind (m := field _ 0) (wpAny_field ho hd (x := .ref t) rfl ?_)
  show wpAny _ _ (if false = true then _ else _) _ _ s
  rw [if_neg Bool.false_ne_true]
  refine wpAny_bind (m := field _ 1) (wpAny_field ho hd (x := .int i 0) rfl (wpAny_bind (m := seqItems? _) (wpAny_seqItems hol hdl ?_)))
  simp only [hx, Int.toNat_natCast]
  refine wpAny_bind (wpAny_rule (wpAny_bind (m := setField _ _ _) (wpAny_setField ho hd (by simp) ?_)))
  have hh2 : A.in1.handled = none := hh
  wp_walk
  unfold raiseNew
  apply wpAny_bind
  apply wpAny_handled
  rw [hh2]
  exact wpAny_bind (wpAny_pure (wpAny_throw (hE _ _ (((Heap.SameBut.update ..).extBut.push _).push _) ⟨_, Heap.get?_push_size _ rfl, rfl⟩)))
theorem drawsT (hh : A.handled = none) (it t : Addr) (hne : t ≠ it) (items : Array Value) : Draws prog w A it [it, t] items.size (fun i v => items[i]? = some v) (fun i h => h.IsTupleIter it t i ∧ h.IsTuple t items) where
  live := fun i h st => by obtain ⟨⟨o, ho, _⟩, _⟩ := st; exact ⟨o, ho⟩
  frame := fun i h h' st k => by
    obtain ⟨⟨o, ho, r⟩, o2, ho2, r2⟩ := st
    exact ⟨⟨o, k it (by simp) o ho, r⟩, o2, k t (by simp) o2 ho2, r2⟩
  item := fun i s Q E hi st q => draw_tup st.1 st.2 (x := items[i]) (Array.getElem?_eq_getElem hi) fun h' a b => q _ h' s.toks (Array.getElem?_eq_getElem hi) ⟨a, st.2.extBut b.extBut hne⟩ b
  done := fun s Q E st q => draw_tupE hh st.1 st.2 (Array.getElem?_eq_none (Nat.le_refl _)) q
theorem made_enum (l : Addr) (items : Array Value) : Meets (Builtin.«enumerate.__new__» ⟨[.type "enumerate", .ref l], []⟩) (fun _ R s => s.heap.IsTuple l items ∧
    R (.ok (.ret (.ref (s.heap.push { cls := .type "tuple_iterator", data := .fields #[.ref l, .int 0 0] }).objs.size))) { s with heap := (s.heap.push { cls := .type "tuple_iterator", data := .fields #[.ref l, .int 0 0] }).push { cls := .type "enumerate", data := .fields #[.none, .bool false, .ref s.heap.objs.size, rawInt 0, .none, .none] } }) := by
  refine .of_wp fun p0 w0 A0 R0 s h => ?_
  obtain ⟨hl, h⟩ := h
  obtain ⟨hp0, g0, d, tk, os⟩ := s
  have hsub := sub_enumerate
  wp_walk using wpAny_pyIter_tuple hl
  refine wpAny_stack_any fun _ => wpAny_pure ?_
  split <;> first
    | (rename_i c _ _ _ _ _; cases (c == Value.type "enumerate") <;> (wp_walk using wpAny_pyIter_tuple hl; exact ⟨_, rfl, h⟩))
    | (wp_walk using wpAny_pyIter_tuple hl; exact ⟨_, rfl, h⟩)
theorem call_enumT {l : Addr} {items : Array Value} {Q : Value → Shared → Prop} (hT : s.heap.IsTuple l items)
    (h : ∀ h', IsEnum h' (s.heap.objs.size + 1) s.heap.objs.size 0 .none → h'.IsTupleIter s.heap.objs.size l 0 → (∀ b o, s.heap.get? b = some o → h'.get? b = some o) → Q (.ref (s.heap.objs.size + 1)) { s with heap := h' }) : wpAny (model prog w) A (call (.type "enumerate") [.ref l]) Q E s := by
  refine callType_new F.called_enumerate (by decide) (F.typeCall_enumerate_1 _) (F.newCall_enumerate_1 _) (fun obj => F.args_object_init_2 obj _) F.entry_enumerate_new (made_enum l items) ⟨hT, ?_⟩
  generalize hh1 : s.heap.push { cls := .type "tuple_iterator", data := .fields #[.ref l, .int 0 0] } = h1
  have e1 : h1.objs.size = s.heap.objs.size + 1 := by rw [← hh1, Heap.size_push]
  have g1 : h1.get? s.heap.objs.size = some { cls := .type "tuple_iterator", data := .fields #[.ref l, .int 0 0] } := by rw [← hh1]; exact Heap.get?_push_size _ rfl
  have k1 : ∀ b o, s.heap.get? b = some o → h1.get? b = some o := fun b o e => by rw [← hh1]; exact Heap.get?_push_of_some _ e
  generalize hh2 : h1.push { cls := .type "enumerate", data := .fields #[.none, .bool false, .ref s.heap.objs.size, rawInt 0, .none, .none] } = h2
  have g2 : h2.get? h1.objs.size = some { cls := .type "enumerate", data := .fields #[.none, .bool false, .ref s.heap.objs.size, rawInt 0, .none, .none] } := by rw [← hh2]; exact Heap.get?_push_size _ rfl
  have k2 : ∀ b o, h1.get? b = some o → h2.get? b = some o := fun b o e => by rw [← hh2]; exact Heap.get?_push_of_some _ e
  refine ⟨⟨_, g2, rfl⟩, ?_⟩
  rw [e1] at g2 ⊢
  exact h h2 g2 ⟨_, k2 _ _ g1, rfl, rfl⟩ fun b o e => k2 b o (k1 b o e)
end
theorem turn_enumT {P : Program} {w : World} {K : PySem.W.Frag} {es : List Expr} {kk : Nat} {tp : Pos} {e it l : Addr} (hei : e ≠ it) (hle : l ≠ e) (hli : l ≠ it) :
    Turn P w K (.Tuple es kk tp) (Iet K l) [e, it] e (fun i h => (∃ old, IsEnum h e it i old) ∧ h.IsTupleIter it l i) := by
  refine turn_pairs (by simp) (fun i h st b hb => ?_) (fun i h h2 st k => ?_) (fun X hP hw hK hc i pins s σ H I st hg => ?_) (fun A i s Q E st q => ?_)
  · obtain ⟨⟨old, a⟩, o, c, d1, d2⟩ := st
    rcases List.mem_cons.mp hb with rfl | hq
    · exact ⟨_, a, fun v z => by cases z⟩
    · rw [List.mem_singleton.mp hq]; exact ⟨o, c, fun v z => by rw [d2] at z; cases z⟩
  · obtain ⟨⟨old, a⟩, o, b, r⟩ := st
    exact ⟨⟨old, k e (by simp) _ a⟩, o, k it (by simp) o b, r⟩
  · subst hP hw hK
    have hq : ∃ xs, SqT X.K H l xs := by rcases hg with ⟨xs, _, a, _⟩ | ⟨xs, a, _⟩ <;> exact ⟨xs, a⟩
    obtain ⟨xs, hq⟩ := hq
    obtain ⟨its, rv, p, hz⟩ := I.tuple hq
    have hl := rv.length
    have D : Draws X.prog X.w X.A.in1 it [it, l] its.toArray.size (fun i v => its.toArray[i]? = some v) (fun i h => h.IsTupleIter it l i ∧ h.IsTuple l its.toArray) := drawsT (show X.A.in1.handled = none from I.ok.hd hc) it l hli its.toArray
    have hef : e ∉ [it, l] := fun z => by
      rcases List.mem_cons.mp z with z1 | z1
      · exact hei z1
      · exact hle (List.mem_singleton.mp z1).symm
    refine ⟨_, _, _, _, _, _, ⟨WalksT.enumerateD D e hei hef (by simp), item2_enumD D e hei hef⟩, ⟨st.1, st.2, p⟩, fun b hb => hb, fun h q => ⟨q.1, q.2.1⟩, fun g => ?_, fun g => ?_⟩
    · obtain ⟨ys, v, hy, hv⟩ := g
      obtain rfl := I.tuple_inj hy hq
      obtain ⟨u, hu, ru⟩ := rv.get hv
      have hlt : i < ys.length := (List.getElem?_eq_some_iff.mp hv).1
      refine ⟨by rw [List.size_toArray, ← hl]; exact hlt, fun vals q => ?_⟩
      obtain ⟨t, x, hx, rfl⟩ := q
      have ex : x = u := by
        have : its[i]? = some x := by simpa using hx
        rw [hu] at this; exact (Option.some.inj this).symm
      subst ex
      exact ⟨[.int i, v], two_line, .cons ⟨t, rfl⟩ (.cons ru .nil), v, rfl, fun zs hzs => by rw [I.tuple_inj hzs hq]; exact hv⟩
    · obtain ⟨ys, hy, e2⟩ := g
      obtain rfl := I.tuple_inj hy hq
      rw [List.size_toArray, ← hl, e2]
  · obtain ⟨⟨old, a⟩, b⟩ := st
    exact wpAny_pyIter_enum a q
section
variable {X : Cx} {es : List Expr} {kk : Nat} {tp : Pos}
theorem pi_enum {a : Expr} {ta : TA} {p pos : Pos} (hg : Gl X "enumerate") (hm : X.mg "enumerate" = none) (ha : PA X [a] ta) (hs : starEach [a] X.env = [(false, eval a X.env)] := by rfl) :
    PI X (.Tuple es kk tp) (.Call (.Name "enumerate" p) [a] [] pos) (fun σ H R => ta σ H fun vs H1 => ∃ l, vs = [.ref l] ∧ (((∃ xs, SqL X.K H1 l xs) ∧ R (Iel X.K l) H1) ∨ ((∃ xs, SqT X.K H1 l xs) ∧ R (Iet X.K l) H1))) := by
  intro pins s σ H R I h
  refine Call_ (ld_blt I hg hm boot_enumerate (PyProof.Rows.callWith_type1 (thn (ha pos pins s σ H _ I h) fun us s1 ⟨vs, H1, I1, r1, q1⟩ => ?_) hs rfl))
  obtain ⟨l, e, q⟩ := q1
  subst e
  obtain ⟨u, rfl, ru⟩ := vals1 r1
  cases ru
  have fo : ∀ b ∈ [s1.heap.objs.size + 1, s1.heap.objs.size], FpOk X pins H1 b := fun b hb => by
    have hle : s1.heap.objs.size ≤ b := by
      simp only [List.mem_cons, or_false, List.not_mem_nil] at hb
      rcases hb with rfl | rfl
      · exact Nat.le_succ _
      · exact Nat.le_refl _
    exact I1.fpOk hle (I1.hok.fresh hle)
  rcases q with ⟨⟨xs, hq⟩, q⟩ | ⟨⟨xs, hq⟩, q⟩
  · obtain ⟨its, rv, pl, hz⟩ := I1.list hq
    have hlt : l < s1.heap.objs.size := by obtain ⟨o, n, e, _⟩ := pl; exact Heap.lt_size e
    refine call_enumerate_list pl.isList fun h' he hi hsz hk => wpAny_pyIter_enum he ?_
    exact ⟨s1.heap.objs.size + 1, _, _, _, H1, rfl, I1.kept (t' := s1.toks) hk, turn_enumL (Nat.succ_ne_self _) (Nat.ne_of_lt (Nat.lt_succ_of_lt hlt)) (Nat.ne_of_lt hlt), ⟨⟨_, he⟩, hi⟩, fo, q⟩
  · obtain ⟨its, rv, pl, hz⟩ := I1.tuple hq
    have hlt : l < s1.heap.objs.size := pl.lt
    refine call_enumT (items := its.toArray) pl fun h' he hi hk => wpAny_pyIter_enum he ?_
    exact ⟨s1.heap.objs.size + 1, _, _, _, H1, rfl, I1.kept (t' := s1.toks) hk, turn_enumT (Nat.succ_ne_self _) (Nat.ne_of_lt (Nat.lt_succ_of_lt hlt)) (Nat.ne_of_lt hlt), ⟨⟨_, he⟩, hi⟩, fo, q⟩
noncomputable def enumD (ds : List D) : List D := ds.zipIdx.map fun p => .tup [.int (p.2 : Int), p.1]
theorem enumD_get {ds : List D} {i : Nat} {d : D} (h : (enumD ds)[i]? = some d) : ∃ d0, ds[i]? = some d0 ∧ d = .tup [.int (i : Int), d0] := by
  unfold enumD at h
  rw [List.getElem?_map, List.getElem?_zipIdx] at h
  cases q : ds[i]? with
  | none => rw [q] at h; cases h
  | some d0 =>
    rw [q] at h
    simp at h
    exact ⟨d0, rfl, h.symm⟩
theorem pair_dn {K : PySem.W.Frag} {S : Addr → Prop} {H : Hp} {T : Addr} {x y : V} {dx dy : D} (fr : H T = none) (hx : Dn K S H dx x) (hy : Dn K S H dy y) : Dn K S (upd H T (.tup [x, y])) (.tup [dx, dy]) (.ref T) := by
  simp only [Dn]
  exact ⟨T, [x, y], rfl, upd_same, Dns.fits (.same (same_upd fr)) _ _ (Dns.cons hx (Dns.one hy))⟩
theorem wlk_enumL {K : PySem.W.Frag} {a : Addr} {ds : List D} : Wlk K (Iel K a) (enumD ds) [(.lst ds, .ref a)] where
  go := fun S H fc hg i d e => by
    have h := hg _ (List.mem_singleton.mpr rfl)
    simp only [Dn] at h
    obtain ⟨b, xs, eb, hb, sb, dn⟩ := h
    injection eb with eb
    subst eb
    obtain ⟨d0, e0, rfl⟩ := enumD_get e
    obtain ⟨v, ev, dv⟩ := dn.get e0
    refine ⟨⟨xs, v, SqL.of hb, ev⟩, fun x H' y => ?_⟩
    obtain ⟨T, vs, rfl, fr, rfl, v', rfl, hy⟩ := y
    have ex := hy xs (SqL.of hb)
    rw [ev] at ex
    cases ex
    exact ⟨same_upd fr, pair_dn fr (by simp only [Dn]) dv⟩
  stop := fun S H hg i hi => by
    have h := hg _ (List.mem_singleton.mpr rfl)
    simp only [Dn] at h
    obtain ⟨b, xs, eb, hb, sb, dn⟩ := h
    injection eb with eb
    subst eb
    exact ⟨xs, SqL.of hb, by rw [← dn.len, ← hi]; simp [enumD]⟩
theorem wlk_enumT {K : PySem.W.Frag} {a : Addr} {ds : List D} : Wlk K (Iet K a) (enumD ds) [(.tup ds, .ref a)] where
  go := fun S H fc hg i d e => by
    have h := hg _ (List.mem_singleton.mpr rfl)
    simp only [Dn] at h
    obtain ⟨b, xs, eb, hb, dn⟩ := h
    injection eb with eb
    subst eb
    obtain ⟨d0, e0, rfl⟩ := enumD_get e
    obtain ⟨v, ev, dv⟩ := dn.get e0
    refine ⟨⟨xs, v, (SqT.of hb), ev⟩, fun x H' y => ?_⟩
    obtain ⟨T, vs, rfl, fr, rfl, v', rfl, hy⟩ := y
    have ex := hy xs (SqT.of hb)
    rw [ev] at ex
    cases ex
    exact ⟨same_upd fr, pair_dn fr (by simp only [Dn]) dv⟩
  stop := fun S H hg i hi => by
    have h := hg _ (List.mem_singleton.mpr rfl)
    simp only [Dn] at h
    obtain ⟨b, xs, eb, hb, dn⟩ := h
    injection eb with eb
    subst eb
    exact ⟨xs, (SqT.of hb), by rw [← dn.len, ← hi]; simp [enumD]⟩
noncomputable def wEnum (t : WA) : WI := fun ρ Q => t ρ fun ds => match ds with
  | [.lst es] => Q (enumD es)
  | [.tup es] => Q (enumD es)
  | _ => False
theorem enumerate3 {a : Expr} {t : WA} {p pos : Pos} (hm : X.mg "enumerate" = none) (ha : PA3 X [a] t) (hg : Gl X "enumerate" := by rfl) (hs : starEach [a] X.env = [(false, eval a X.env)] := by rfl) : PI3 X (.Tuple es kk tp) (.Call (.Name "enumerate" p) [a] [] pos) (wEnum t) :=
  impI (pi_enum hg hm ha hs) fun σ H R hq50 => by
    obtain ⟨S, ρ, Q3, fc, sl, ht, k⟩ := hq50
    refine ⟨S, ρ, _, fc, sl, ht, fun vs H1 ds s1 d1 q1 => ?_⟩
    split at q1
    · obtain ⟨v, r, rfl, h1, h2⟩ := d1.uncons
      simp only [Dns] at h2
      subst h2
      have h1' := h1
      simp only [Dn] at h1
      obtain ⟨l, xs, rfl, hl, sl', da⟩ := h1
      exact ⟨l, rfl, .inl ⟨⟨xs, SqL.of hl⟩, k _ H1 _ [(_, .ref l)] s1 (fun g hg => by cases List.mem_singleton.mp hg; exact h1') wlk_enumL q1⟩⟩
    · obtain ⟨v, r, rfl, h1, h2⟩ := d1.uncons
      simp only [Dns] at h2
      subst h2
      have h1' := h1
      simp only [Dn] at h1
      obtain ⟨l, xs, rfl, hl, da⟩ := h1
      exact ⟨l, rfl, .inr ⟨⟨xs, (SqT.of hl)⟩, k _ H1 _ [(_, .ref l)] s1 (fun g hg => by cases List.mem_singleton.mp hg; exact h1') wlk_enumT q1⟩⟩
    · exact q1.elim
end
end L3
end
section
set_option Elab.async false
set_option linter.all false
set_option maxRecDepth 100000
set_option maxHeartbeats 3999999
namespace L3
open PySem PySem.Spec PyProof.Rows L2
section
variable {X : Cx} {a b : Expr} {pos : Pos} {ta tb : WE}
theorem op_mulB : OpR X (binaryOp .Mult) (rI IntMulOk fun i j => .int (i * j)) := opI fun _ _ _ _ _ _ _ hc q => mul_int q hc
noncomputable def mulBF : F2 := intF IntMulOk fun i j => .int (i * j)
theorem mulB3 (ha : PE3 X a ta) (hb : PE3 X b tb) : PE3 X (.BinOp a .Mult b pos) (wBin mulBF ta tb) := op3 op_mulB o3_int ha hb
end
theorem mulB_ok {i j : Int} {m n : Nat} (hi : i.natAbs < 2 ^ m) (hj : j.natAbs < 2 ^ n) (h : m + n ≤ 134217728) : IntMulOk i j := by
  exact mulOk_of_bits (intBits_le hi) (intBits_le hj) h
section
variable {X : Cx}
noncomputable def wFull (t : WE) : WT := fun ρ Q => t ρ fun d => match d with
  | .lst ds => Q (!ds.isEmpty)
  | .tup ds => Q (!ds.isEmpty)
  | _ => False
theorem Dns.empty {K : PySem.W.Frag} {S : Addr → Prop} {H : Hp} {ds : List D} {xs : List V} (h : Dns K S H ds xs) : ds.isEmpty = xs.isEmpty := by
  have := h.len
  cases ds <;> cases xs <;> simp at this ⊢
noncomputable abbrev WO := DEnv → (Option Int → Prop) → Prop
noncomputable def liftO (K : PySem.W.Frag) (t : WO) : TO := fun σ H Q => ∃ (S : Addr → Prop) (ρ : DEnv) (Q3 : Option Int → Prop), (∀ a, H a = none → S a) ∧ Sl K S H ρ σ ∧ t ρ Q3 ∧ ∀ o H', Same H H' → Q3 o → Q o H'
noncomputable def PO3 (X : Cx) (e : Option Expr) (t : WO) : Prop := PO X e (liftO X.K t)
noncomputable def wNoPart : WO := fun _ Q => Q none
noncomputable def wPart (t : WE) : WO := fun ρ Q => t ρ fun d => match d with
  | .int i => Q (some i)
  | _ => False
theorem po3n : PO3 X none wNoPart := fun pins s σ H Q I hq51 => by obtain ⟨S, ρ, Q3, fc, sl, ht, k⟩ := hq51; exact po_none pins s σ H Q I (k none H (Same.refl H) ht)
theorem po3 {e : Expr} {t : WE} (h : PE3 X e t) : PO3 X (some e) (wPart t) := fun pins s σ H Q I hq52 => by
  obtain ⟨S, ρ, Q3, fc, sl, ht, k⟩ := hq52
  refine po_some h pins s σ H Q I ⟨S, ρ, _, fc, sl, ht, fun v H1 d s1 d1 q1 => ?_⟩
  cases d with
  | int i => simp only [Dn] at d1; exact ⟨i, d1, k _ H1 s1 q1⟩
  | _ => exact q1.elim
noncomputable def cutD (xs : List D) (lo hi : Option Int) : List D := (xs.drop (HT.sIx xs.length 0 lo)).take (HT.sIx xs.length xs.length hi - HT.sIx xs.length 0 lo)
theorem Dns.cut {K : PySem.W.Frag} {S : Addr → Prop} {H : Hp} {ds : List D} {xs : List V} {lo hi : Option Int} (h : Dns K S H ds xs) : Dns K S H (cutD ds lo hi) (cutV xs lo hi) := by
  unfold cutD cutV
  rw [h.len]
  exact (h.drop _).take _
theorem item_all {prog : Program} {w : World} {A : Around} {E : Value → Shared → Prop} {s : Shared} {t sl : Addr} {items : Array Value} {vl vu : Value} {lo hi : Option Int} {Q : Value → Shared → Prop} (ht : IsTup s.heap t items) (hs : s.heap.IsSliceOf sl vl vu .none) (pl : IsPart vl lo) (pu : IsPart vu hi)
    (h0 : HT.sIx items.size 0 lo = 0) (h1 : HT.sIx items.size items.size hi = items.size) (h : Q (.ref t) s) : wpAny (model prog w) A (getItem (.ref t) (.ref sl)) Q E s := by
  have hT : s.TypeIs (.ref sl) "slice" := by obtain ⟨o, a, b, _⟩ := hs; exact ⟨o, a, b⟩
  unfold getItem
  try with_reducible refine wpAny_holding ?_
  first | refine wpAny_bind (wpAny_pure ?_) | skip
  apply wpAny_bind
  refine wpAny_sequenceKey ht.typeIs (by decide) (wpAny_bind (wpAny_callSpecial?_slot ht.typeIs PyProof.Rows.slot_tuple_getitem (wpAny_call_entry PyProof.Rows.slot_tuple_getitem ht.typeIs entry_tuple_getitem ?_ (args_tuple_getitem _ _))))
  refine wpAny_bind (m := Builtin.Tuple.tupleItemsOf _) (tupleItemsOf_ ht (wpAny_bind (wpAny_typeOf hT ?_)))
  rw [if_pos (by decide)]
  refine wpAny_bind (HT.sliceApplied_gen (n := items.size) hs pl pu ?_)
  rw [h0, h1]
  show wpAny _ _ (if ((((0 : Nat) : Int) == 0) && ((1 : Int) == 1) && ((items.size - 0) == items.size)) = true then _ else _) _ _ s
  rw [if_pos (by simp)]
  refine wpAny_bind (m := Builtin.Tuple.tupleIsExact _) (wpAny_bind (wpAny_typeOf ht.typeIs (wpAny_pure ?_)))
  show wpAny _ _ (if true = true then _ else _) _ _ s
  rw [if_pos rfl]
  exact wpAny_bind (wpAny_rule (wpAny_pure ⟨_, rfl, wpAny_pure h⟩))
noncomputable def rSlW (K : PySem.W.Frag) : V → Option Int → Option Int → Hp → VK → Prop := fun x lo hi H Q => ∃ a xs, x = .ref a ∧ SqT K H a xs ∧ (HT.sIx xs.length 0 lo = 0 ∧ HT.sIx xs.length xs.length hi = xs.length) ∧ Q (.ref a) H
theorem sl_tupW : SlR X (rSlW X.K) := by
  intro pins s σ H x v vl vu lo hi sl Q I rx hs pl pu h
  obtain ⟨a, xs, rfl, hx, hw, q⟩ := h
  cases rx
  obtain ⟨its, r, ht, hz⟩ := I.tuple hx
  have hlen : its.toArray.size = xs.length := by rw [List.size_toArray]; exact r.length.symm
  exact ⟨"tuple", _, PyProof.Rows.slot_tuple_getitem.lookup, ht.typeIs, item_all ht hs pl pu (by rw [hlen]; exact hw.1) (by rw [hlen]; exact hw.2) ⟨.ref a, H, I, rfl, q⟩⟩
noncomputable def wSl (te : WE) (tl th : WO) : WE := fun ρ Q => te ρ fun d => tl ρ fun lo => th ρ fun hi => match d with
  | .lst ds => Q (.lst (cutD ds lo hi))
  | .tup ds => Q (.tup (cutD ds lo hi))
  | _ => False
theorem sl3 {e : Expr} {lo hi : Option Expr} {p2 pos : Pos} {te : WE} {tl th : WO} (he : PE3 X e te) (hl : PO3 X lo tl) (hh : PO3 X hi th) : PE3 X (.Subscript e (.Slice lo hi none p2) pos) (wSl te tl th) :=
  imp (pe_slice (sl_list.or (sl_tup.or sl_tupW)) he hl hh) fun σ H Q hq53 => by
    obtain ⟨S, ρ, Q3, fc, sl, ht, k⟩ := hq53
    refine ⟨S, ρ, _, fc, sl, ht, fun v H1 d s1 d1 q1 => ?_⟩
    refine ⟨S, ρ, _, fc_same fc s1, Sl.fits (.same s1) sl, q1, fun o H2 s2 q2 => ?_⟩
    refine ⟨S, ρ, _, fc_same fc (s1.trans s2), Sl.fits (.same (s1.trans s2)) sl, q2, fun o2 H3 s3 q3 => ?_⟩
    have d3 := Dn.fits (.same (s2.trans s3)) _ _ d1
    have sa := (s1.trans s2).trans s3
    cases d with
    | lst ds =>
      simp only [Dn] at d3
      obtain ⟨a, xs, rfl, ha, sa', da⟩ := d3
      refine .inl ⟨a, xs, rfl, SqL.of ha, fun p hp => k _ _ _ (sa.trans (same_upd hp)) ?_ q3⟩
      simp only [Dn]
      exact ⟨p, _, rfl, upd_same, fc_same fc sa p hp, Dns.fits (.same (same_upd hp)) _ _ da.cut⟩
    | tup ds =>
      simp only [Dn] at d3
      obtain ⟨a, xs, rfl, ha, da⟩ := d3
      have hl := da.len
      by_cases hw : HT.sIx xs.length 0 o = 0 ∧ HT.sIx xs.length xs.length o2 = xs.length
      · refine .inr (.inr ⟨a, xs, rfl, (SqT.of ha), hw, k _ _ _ sa ?_ q3⟩)
        have e : cutD ds o o2 = ds := by
          unfold cutD
          rw [hl, hw.1, hw.2, List.drop_zero, Nat.sub_zero, List.take_of_length_le (Nat.le_of_eq hl)]
        rw [e]
        simp only [Dn]
        exact ⟨a, xs, rfl, ha, da⟩
      · refine .inr (.inl ⟨a, xs, rfl, (SqT.of ha), hw, fun p hp => k _ _ _ (sa.trans (same_upd hp)) ?_ q3⟩)
        simp only [Dn]
        exact ⟨p, _, rfl, upd_same, Dns.fits (.same (same_upd hp)) _ _ da.cut⟩
    | _ => exact q3.elim
end
end L3
end
section
set_option Elab.async false
set_option linter.all false
set_option maxRecDepth 100000
set_option maxHeartbeats 3999999
namespace L3
open PySem PySem.Spec PyProof.Rows L2
section
variable {X : Cx} {tg : Expr}
end
end L3
end
section
set_option Elab.async false
set_option linter.all false
set_option maxRecDepth 100000
set_option maxHeartbeats 3999999
namespace L4
open PySem PySem.Spec PyProof.Rows L2 L3
noncomputable def wE (f : EF) : WE := fun ρ Q => ∃ d, f ρ = some d ∧ Q d
noncomputable def wT (f : TF) : WT := fun ρ Q => ∃ d, f ρ = some d ∧ Q d
noncomputable def wA (f : AF) : WA := fun ρ Q => ∃ d, f ρ = some d ∧ Q d
noncomputable def wI (f : AF) : WI := fun ρ Q => ∃ d, f ρ = some d ∧ Q d
noncomputable def wO (f : OF) : WO := fun ρ Q => ∃ d, f ρ = some d ∧ Q d
noncomputable def wX (f : XF) : WX := fun ρ Q => ∃ p, f ρ = some p ∧ Q p.1 p.2
noncomputable def wS (f : SF) : WS := fun E ρ => match f ρ with
  | .nx ρ' => E.nx ρ'
  | .rt d => E.rt d
  | .ex c => E.ex c
  | .no => False
noncomputable def wG (g : GSF) : WG := fun d ρ Q => ∃ ρ', g d ρ = some ρ' ∧ Q ρ'
noncomputable def wGE (g : GEF) : GE := fun d ρ Q => ∃ ρ', g d ρ = some ρ' ∧ Q ρ'
noncomputable abbrev PE4 (X : Cx) (e : Expr) (f : EF) : Prop := PE3 X e (wE f)
noncomputable abbrev PF4 (X : Cx) (e : Expr) (f : EF) : Prop := PF3 X e (wE f)
noncomputable abbrev PT4 (X : Cx) (e : Expr) (f : TF) : Prop := PT3 X e (wT f)
noncomputable abbrev PW4 (X : Cx) (e : Expr) (f : TF) : Prop := PW3 X e (wT f)
noncomputable abbrev PA4 (X : Cx) (es : List Expr) (f : AF) : Prop := PA3 X es (wA f)
noncomputable abbrev PI4 (X : Cx) (tg e : Expr) (f : AF) : Prop := PI3 X tg e (wI f)
noncomputable abbrev PO4 (X : Cx) (e : Option Expr) (f : OF) : Prop := PO3 X e (wO f)
noncomputable abbrev PX4 (X : Cx) (e : Expr) (f : XF) : Prop := PX3 X e (wX f)
noncomputable abbrev PS4 (X : Cx) (st : Stmt) (f : SF) : Prop := PS3 X st (wS f)
noncomputable abbrev PSs4 (X : Cx) (st : List Stmt) (f : SF) : Prop := PSs3 X st (wS f)
section
variable {X : Cx}
theorem cE {e : Expr} {t t' : WE} (h : PE3 X e t) (c : ∀ ρ Q, t' ρ Q → t ρ Q) : PE3 X e t' := imp h fun _ _ _ hq54 => by obtain ⟨S, ρ, Q3, fc, sl, ht, k⟩ := hq54; exact ⟨S, ρ, Q3, fc, sl, c ρ Q3 ht, k⟩
theorem cF {e : Expr} {t t' : WE} (h : PF3 X e t) (c : ∀ ρ Q, t' ρ Q → t ρ Q) : PF3 X e t' := imp h fun _ _ _ hq55 => by obtain ⟨S, ρ, Q3, fc, sl, ht, k⟩ := hq55; exact ⟨S, ρ, Q3, fc, sl, c ρ Q3 ht, k⟩
theorem cT {e : Expr} {t t' : WT} (h : PT3 X e t) (c : ∀ ρ Q, t' ρ Q → t ρ Q) : PT3 X e t' := impT h fun _ _ _ hq56 => by obtain ⟨S, ρ, Q3, fc, sl, ht, k⟩ := hq56; exact ⟨S, ρ, Q3, fc, sl, c ρ Q3 ht, k⟩
theorem cW {e : Expr} {t t' : WT} (h : PW3 X e t) (c : ∀ ρ Q, t' ρ Q → t ρ Q) : PW3 X e t' := impW h fun _ _ _ hq57 => by obtain ⟨S, ρ, Q3, fc, sl, ht, k⟩ := hq57; exact ⟨S, ρ, Q3, fc, sl, c ρ Q3 ht, k⟩
theorem cA {e : List Expr} {t t' : WA} (h : PA3 X e t) (c : ∀ ρ Q, t' ρ Q → t ρ Q) : PA3 X e t' := impA h fun _ _ _ hq58 => by obtain ⟨S, ρ, Q3, fc, sl, ht, k⟩ := hq58; exact ⟨S, ρ, Q3, fc, sl, c ρ Q3 ht, k⟩
theorem cI {tg e : Expr} {t t' : WI} (h : PI3 X tg e t) (c : ∀ ρ Q, t' ρ Q → t ρ Q) : PI3 X tg e t' := impI h fun _ _ _ hq59 => by obtain ⟨S, ρ, Q3, fc, sl, ht, k⟩ := hq59; exact ⟨S, ρ, Q3, fc, sl, c ρ Q3 ht, k⟩
theorem cX {e : Expr} {t t' : WX} (h : PX3 X e t) (c : ∀ ρ Q, t' ρ Q → t ρ Q) : PX3 X e t' := imp h fun _ _ _ hq60 => by obtain ⟨H₀, S, w, ρ, G, Q3, hl, st, ht, k⟩ := hq60; exact ⟨H₀, S, w, ρ, G, Q3, hl, st, c ρ Q3 ht, k⟩
theorem cS {e : Stmt} {t t' : WS} (h : PS3 X e t) (c : ∀ E ρ, t' E ρ → t E ρ) : PS3 X e t' := impS h fun _ _ _ hq61 => by obtain ⟨H₀, S, w, ρ, G, E, hl, st, ht, ok⟩ := hq61; exact ⟨H₀, S, w, ρ, G, E, hl, st, c E ρ ht, ok⟩
theorem cSs {e : List Stmt} {t t' : WS} (h : PSs3 X e t) (c : ∀ E ρ, t' E ρ → t E ρ) : PSs3 X e t' := impSs h fun _ _ _ hq62 => by obtain ⟨H₀, S, w, ρ, G, E, hl, st, ht, ok⟩ := hq62; exact ⟨H₀, S, w, ρ, G, E, hl, st, c E ρ ht, ok⟩
theorem PW4.pt {e : Expr} {f : TF} (h : PW4 X e f) : PT4 X e f := PW3.pt h
theorem PF4.pe {e : Expr} {f : EF} (h : PF4 X e f) : PE4 X e f := PF3.pe h
theorem bnd {α β : Type} {o : Option α} {f : α → Option β} {b : β} (h : o.bind f = some b) : ∃ a, o = some a ∧ f a = some b := by
  cases o with
  | none => cases h
  | some a => exact ⟨a, rfl, h⟩
theorem mpd {α β : Type} {o : Option α} {f : α → β} {b : β} (h : o.map f = some b) : ∃ a, o = some a ∧ f a = b := by
  cases o with
  | none => cases h
  | some a => exact ⟨a, rfl, Option.some.inj h⟩
theorem x4 (i : Nat) {x : Str} {pos : Pos} (hN : X.N[i]? = some x := by rfl) (hv : Vis X.env.scope x := by first | exact Or.inl rfl | exact Or.inr (Or.inl rfl) | exact Or.inr (Or.inr rfl)) (hd : (x == ("__debug__" : Str)) = false := by decide)
    (hcd : (x == ("__classdict__" : Str)) = false := by decide) : PE4 X (.Name x pos) (eVar i) := cE (x3 i hN hv hd hcd) fun ρ Q hq63 => by
  obtain ⟨d, e, q⟩ := hq63
  unfold eVar at e
  unfold wVar
  cases h : ρ[i]? with
  | none => rw [h] at e; cases e
  | some o =>
    rw [h] at e
    cases o with
    | none => cases e
    | some d' => cases e; exact q
theorem i4 {i : Int} {j pos} : PE4 X (.Constant (.int i) j pos) (eC (.int i)) := cE i3 fun _ _ hq64 => by obtain ⟨_, e, q⟩ := hq64; cases e; exact q
theorem b4 {b : Bool} {j pos} : PE4 X (.Constant (.bool b) j pos) (eC (.bl b)) := cE b3 fun _ _ hq65 => by obtain ⟨_, e, q⟩ := hq65; cases e; exact q
theorem n4 {j pos} : PE4 X (.Constant .none j pos) (eC .non) := cE n3 fun _ _ hq66 => by obtain ⟨_, e, q⟩ := hq66; cases e; exact q
theorem s4 {x : Str} {j pos} : PE4 X (.Constant (.str x) j pos) (eC (.str x)) := cE s3 fun _ _ hq67 => by obtain ⟨_, e, q⟩ := hq67; cases e; exact q
theorem c4 {x : Str} {i : Int} {t : Tok} {pos : Pos} (hm : X.mg x = some (.int i t)) (hg : Gl X x := by rfl) (hd : (x == ("__debug__" : Str)) = false := by decide) : PE4 X (.Name x pos) (eC (.int i)) := cE (g3 hg hm hd) fun _ _ hq68 => by obtain ⟨_, e, q⟩ := hq68; cases e; exact q
noncomputable def Tells (f : F2) (g : D → D → Option D) : Prop := ∀ (x y d : D) (Q : D → Prop), g x y = some d → Q d → f x y Q
theorem bin_w {f : F2} {g : D → D → Option D} (h : Tells f g) {fa fb : EF} (ρ : DEnv) (Q : D → Prop) (w : wE (eBin g fa fb) ρ Q) : wBin f (wE fa) (wE fb) ρ Q := by
  obtain ⟨d, e, q⟩ := w
  obtain ⟨x, ex, e⟩ := bnd e
  obtain ⟨y, ey, e⟩ := bnd e
  exact ⟨x, ex, y, ey, h x y d Q e q⟩
theorem tells_int {g : Int → Int → D} : Tells (intF0 g) (intM g) := fun x y d Q e q => by
  cases x <;> first | (cases e; done) | skip
  all_goals (cases y <;> first | (cases e; done) | skip)
  cases e; exact q
theorem tells_intC {C : Int → Int → Prop} {c : Int → Int → Bool} {g : Int → Int → D} (h : ∀ i j, c i j = true → C i j) : Tells (intF C g) (intMC c g) := fun x y d Q e q => by
  cases x <;> first | (cases e; done) | skip
  all_goals (cases y <;> first | (cases e; done) | skip)
  rename_i i j
  have e : (if c i j = true then some (g i j) else none) = some d := e
  by_cases hc : c i j = true
  · rw [if_pos hc] at e; cases e; exact ⟨h i j hc, q⟩
  · rw [if_neg hc] at e; cases e
theorem szl {n : Nat} {α : Type} {x d : α} {Q : α → Prop} (e : (if n ≤ szL then some x else none) = some d) (q : Q d) : n ≤ sizeLine ∧ Q x := by
  by_cases h : n ≤ szL
  · rw [if_pos h] at e; cases e; exact ⟨by rw [sizeLine_eq]; exact h, q⟩
  · rw [if_neg h] at e; cases e
theorem tells_add : Tells addF addM := fun x y d Q e q => by
  cases x <;> first | (cases e; done) | skip
  all_goals (cases y <;> first | (cases e; done) | skip)
  · cases e; exact q
  · exact szl (x := D.str _) e q
  · exact szl (x := D.tup _) e q
  · exact szl (x := D.lst _) e q
theorem tells_cat : Tells catF catM := fun x y d Q e q => by
  cases x <;> first | (cases e; done) | skip
  all_goals (cases y <;> first | (cases e; done) | skip)
  exact szl (x := D.lst _) e q
theorem mul_ok {i j : Int} (h : mulOk i j = true) : IntMulOk i j := by
  unfold mulOk at h
  simp only [Bool.or_eq_true, decide_eq_true_eq] at h
  rcases h with (h | h) | h
  · exact CMul.ok (.inl ⟨by omega, by omega⟩)
  · exact CMul.ok (.inr ⟨by omega, by omega⟩)
  · refine mulB_ok (m := i.natAbs.log2 + 1) (n := j.natAbs.log2 + 1) ?_ ?_ (by omega)
    · exact Nat.lt_log2_self
    · exact Nat.lt_log2_self
section
variable {a b : Expr} {pos : Pos} {fa fb : EF}
theorem add4 (ha : PE4 X a fa) (hb : PE4 X b fb) : PE4 X (.BinOp a .Add b pos) (eBin addM fa fb) := cE (add3 ha hb) (bin_w tells_add)
theorem sub4 (ha : PE4 X a fa) (hb : PE4 X b fb) : PE4 X (.BinOp a .Sub b pos) (eBin subM fa fb) := cE (sub3 ha hb) (bin_w tells_int)
theorem mul4 (ha : PE4 X a fa) (hb : PE4 X b fb) : PE4 X (.BinOp a .Mult b pos) (eBin mulM fa fb) := cE (mulB3 ha hb) (bin_w (tells_intC fun _ _ h => mul_ok h))
theorem mod4 (ha : PE4 X a fa) (hb : PE4 X b fb) : PE4 X (.BinOp a .Mod b pos) (eBin modM fa fb) := cE (mod3 ha hb) (bin_w (tells_intC fun _ _ h => by simpa using h))
theorem div4 (ha : PE4 X a fa) (hb : PE4 X b fb) : PE4 X (.BinOp a .FloorDiv b pos) (eBin divM fa fb) := cE (div3 ha hb) (bin_w (tells_intC fun i j h => by
  simp only [Bool.and_eq_true, decide_eq_true_eq] at h
  exact ⟨h.1, by omega⟩))
theorem pow4 (ha : PE4 X a fa) (hb : PE4 X b fb) : PE4 X (.BinOp a .Pow b pos) (eBin powM fa fb) := cE (pow3 ha hb) (bin_w (tells_intC fun i j h => by
  simp only [Bool.and_eq_true, decide_eq_true_eq] at h
  exact ⟨h.1.1, by omega, h.2⟩))
theorem catN4 (ha : PE4 X a fa) (hb : PE4 X b fb) : PF4 X (.BinOp a .Add b pos) (eBin catM fa fb) := cF (catN3 ha hb) (bin_w tells_cat)
theorem tells_eq : Tells eqSF eqM := fun x y d Q e q => by
  cases x <;> first | (cases e; done) | skip
  all_goals (cases y <;> first | (cases e; done) | skip)
  all_goals (cases e; exact ⟨rfl, q⟩)
theorem tells_ne : Tells neSF neM := fun x y d Q e q => by
  cases x <;> first | (cases e; done) | skip
  all_goals (cases y <;> first | (cases e; done) | skip)
  all_goals (cases e; exact ⟨rfl, q⟩)
theorem ints_of : ∀ {ds : List D} {ns : List Int}, intsOf ds = some ns → ds = ns.map D.int
  | [], ns, h => by cases h; rfl
  | d :: ds, ns, h => by
    cases d <;> first | cases h; done | skip
    obtain ⟨m, e, rfl⟩ := mpd h
    rw [ints_of e]; rfl
theorem tells_in {neg : Bool} : Tells (inF neg) (inM neg) := fun x y d Q e q => by
  cases x <;> first | (cases e; done) | skip
  all_goals (cases y <;> first | (cases e; done) | skip)
  all_goals
    obtain ⟨ns, e1, rfl⟩ := mpd e
    have := ints_of e1
    subst this
    exact ⟨allI_ints ns, by rw [memI_ints]; exact q⟩
theorem tells_is : Tells isNF isM := fun x y d Q e q => by
  unfold isM at e
  split at e
  · rename_i h
    cases e
    refine ⟨(by cases y <;> first | rfl | cases h), ?_⟩
    have : isD x = isNon x := by cases x <;> rfl
    rw [this]; exact q
  · cases e
theorem gt4 (ha : PE4 X a fa) (hb : PE4 X b fb) : PE4 X (.Compare a [.Gt] [b] pos) (eBin gtM fa fb) := cE (gt3 ha hb) (bin_w tells_int)
theorem eq4 (ha : PE4 X a fa) (hb : PE4 X b fb) : PE4 X (.Compare a [.Eq] [b] pos) (eBin eqM fa fb) := cE (eqS3 ha hb) (bin_w tells_eq)
theorem in4 (ha : PE4 X a fa) (hb : PE4 X b fb) (hm : behindInMarks .In b = false := by with_unfolding_all rfl) : PE4 X (.Compare a [.In] [b] pos) (eBin (inM false) fa fb) := cE (in3 ha hb hm) (bin_w tells_in)
theorem nin4 (ha : PE4 X a fa) (hb : PE4 X b fb) (hm : behindInMarks .NotIn b = false := by with_unfolding_all rfl) : PE4 X (.Compare a [.NotIn] [b] pos) (eBin (inM true) fa fb) := cE (nin3 ha hb hm) (bin_w tells_in)
theorem is4 (ha : PE4 X a fa) (hb : PE4 X b fb) : PE4 X (.Compare a [.Is] [b] pos) (eBin isM fa fb) := cE (isN3 ha hb) (bin_w tells_is)
theorem bin_t {f : F2} {g : D → D → Option D} (h : Tells f g) (hb : ∀ x y d, g x y = some d → ∃ b, d = .bl b) {fa fb : EF} (ρ : DEnv) (Q : Bool → Prop) (w : wT (tV (eBin g fa fb)) ρ Q) : wTest (wBin f (wE fa) (wE fb)) ρ Q := by
  obtain ⟨b, e, q⟩ := w
  obtain ⟨d, e1, e2⟩ := bnd e
  obtain ⟨x, ex, e1⟩ := bnd e1
  obtain ⟨y, ey, e1⟩ := bnd e1
  obtain ⟨c, rfl⟩ := hb x y d e1
  cases e2
  exact ⟨x, ex, y, ey, h x y _ _ e1 q⟩
theorem bl_int {g : Int → Int → Bool} (x y d : D) (e : intM (fun i j => .bl (g i j)) x y = some d) : ∃ b, d = .bl b := by
  cases x <;> first | (cases e; done) | skip
  all_goals (cases y <;> first | (cases e; done) | skip)
  cases e; exact ⟨_, rfl⟩
theorem bl_eq (x y d : D) (e : eqM x y = some d) : ∃ b, d = .bl b := by obtain ⟨b, _, rfl⟩ := mpd e; exact ⟨_, rfl⟩
theorem bl_ne (x y d : D) (e : neM x y = some d) : ∃ b, d = .bl b := by obtain ⟨b, _, rfl⟩ := mpd e; exact ⟨_, rfl⟩
theorem bl_in {neg : Bool} (x y d : D) (e : inM neg x y = some d) : ∃ b, d = .bl b := by
  cases x <;> first | (cases e; done) | skip
  all_goals (cases y <;> first | (cases e; done) | skip)
  all_goals (obtain ⟨b, _, rfl⟩ := mpd e; exact ⟨_, rfl⟩)
theorem bl_is (x y d : D) (e : isM x y = some d) : ∃ b, d = .bl b := by
  unfold isM at e
  split at e
  · cases e; exact ⟨_, rfl⟩
  · cases e
theorem ltT4 (ha : PE4 X a fa) (hb : PE4 X b fb) : PT4 X (.Compare a [.Lt] [b] pos) (tV (eBin ltM fa fb)) := cT (ltT3 ha hb) (bin_t tells_int bl_int)
theorem gtT4 (ha : PE4 X a fa) (hb : PE4 X b fb) : PT4 X (.Compare a [.Gt] [b] pos) (tV (eBin gtM fa fb)) := cT (gtT3 ha hb) (bin_t tells_int bl_int)
theorem geT4 (ha : PE4 X a fa) (hb : PE4 X b fb) : PT4 X (.Compare a [.GtE] [b] pos) (tV (eBin geM fa fb)) := cT (geT3 ha hb) (bin_t tells_int bl_int)
theorem eqT4 (ha : PE4 X a fa) (hb : PE4 X b fb) : PT4 X (.Compare a [.Eq] [b] pos) (tV (eBin eqM fa fb)) := cT (eqST3 ha hb) (bin_t tells_eq bl_eq)
theorem neT4 (ha : PE4 X a fa) (hb : PE4 X b fb) : PT4 X (.Compare a [.NotEq] [b] pos) (tV (eBin neM fa fb)) := cT (neST3 ha hb) (bin_t tells_ne bl_ne)
theorem inT4 (ha : PE4 X a fa) (hb : PE4 X b fb) (hm : behindInMarks .In b = false := by with_unfolding_all rfl) : PT4 X (.Compare a [.In] [b] pos) (tV (eBin (inM false) fa fb)) := cT (inT3 ha hb hm) (bin_t tells_in bl_in)
theorem ninT4 (ha : PE4 X a fa) (hb : PE4 X b fb) (hm : behindInMarks .NotIn b = false := by with_unfolding_all rfl) : PT4 X (.Compare a [.NotIn] [b] pos) (tV (eBin (inM true) fa fb)) := cT (ninT3 ha hb hm) (bin_t tells_in bl_in)
theorem isT4 (ha : PE4 X a fa) (hb : PE4 X b fb) : PT4 X (.Compare a [.Is] [b] pos) (tV (eBin isM fa fb)) := cT (isNT3 ha hb) (bin_t tells_is bl_is)
end
noncomputable def O4 (K : PySem.W.Frag) (r : R2) (g : D → D → Option D) : Prop := ∃ f, O3 K r f ∧ Tells f g ∧ ∀ x y d, g x y = some d → ∃ b, d = .bl b
theorem o4_lt {K : PySem.W.Frag} : O4 K (rI0 fun i j => .bl (decide (i < j))) ltM := ⟨_, o3_cmp, tells_int, bl_int⟩
theorem o4_le {K : PySem.W.Frag} : O4 K (rI0 fun i j => .bl (decide (i ≤ j))) leM := ⟨_, o3_cmp, tells_int, bl_int⟩
theorem chain_w {f g : F2} {p q : D → D → Option D} (hf : Tells f p) (hg : Tells g q) {fa fb fc : EF} (ρ : DEnv) (Q : D → Prop) (w : wE (eChain p q fa fb fc) ρ Q) : wChain f g (wE fa) (wE fb) (wE fc) ρ Q := by
  obtain ⟨d, e, k⟩ := w
  obtain ⟨x, ex, e⟩ := bnd e
  obtain ⟨y, ey, e⟩ := bnd e
  obtain ⟨z, ez, e⟩ := bnd e
  obtain ⟨b, eb, e5⟩ := bnd e
  refine ⟨x, ex, y, ey, hf x y z _ ez ?_⟩
  clear e
  cases z <;> first | cases eb; done | skip
  cases eb
  cases b with
  | true =>
    rw [if_pos rfl] at e5
    obtain ⟨u, eu, e⟩ := bnd e5
    exact ⟨u, eu, hg y u d Q e k⟩
  | false =>
    rw [if_neg Bool.false_ne_true] at e5
    cases e5
    exact k
theorem chain4 {a b c : Expr} {op op' : CmpOp} {pos : Pos} {r r' : R2} {p q : D → D → Option D} {fa fb fc : EF} (ho : OpR X (compareOp op) r) (ho' : OpR X (compareOp op') r') (h1 : O4 X.K r p) (h2 : O4 X.K r' q) (ha : PE4 X a fa) (hb : PE4 X b fb) (hc : PE4 X c fc)
    (hm : lastMarks [op, op'] [b, c] = false := by with_unfolding_all rfl) : PE4 X (.Compare a [op, op'] [b, c] pos) (eChain p q fa fb fc) := by
  obtain ⟨f, o1, t1, _⟩ := h1
  obtain ⟨g, o2, t2, _⟩ := h2
  exact cE (chain3 ho ho' o1 o2 ha hb hc hm) (chain_w t1 t2)
section
variable {a b c : Expr} {rest : List Expr} {pos : Pos} {fa fb : EF} {ta tb tc : TF}
theorem notT4 (ha : PT4 X a ta) : PT4 X (.UnaryOp .Not a pos) (tNot ta) := cT (notT3 ha) fun ρ Q hq69 => by
  obtain ⟨b, e, q⟩ := hq69
  obtain ⟨c, ec, rfl⟩ := mpd e
  exact ⟨c, ec, q⟩
theorem and14 (ha : PT4 X a ta) : PW4 X (.BoolOp .And [a] pos) ta := and1 ha
theorem or14 (ha : PT4 X a ta) : PW4 X (.BoolOp .Or [a] pos) ta := or1 ha
theorem andT4 (ha : PT4 X a ta) (hb : PW4 X (.BoolOp .And (b :: rest) pos) tb) : PW4 X (.BoolOp .And (a :: b :: rest) pos) (tAnd ta tb) := cW (andT3 ha hb) fun ρ Q hq70 => by
  obtain ⟨d, e, q⟩ := hq70
  obtain ⟨c, ec, e⟩ := bnd e
  refine ⟨c, ec, ?_⟩
  cases c with
  | true => rw [if_pos rfl] at e ⊢; exact ⟨d, e, q⟩
  | false => rw [if_neg Bool.false_ne_true] at e ⊢; cases e; exact q
theorem orT4 (ha : PT4 X a ta) (hb : PW4 X (.BoolOp .Or (b :: rest) pos) tb) : PW4 X (.BoolOp .Or (a :: b :: rest) pos) (tOr ta tb) := cW (orT3 ha hb) fun ρ Q hq71 => by
  obtain ⟨d, e, q⟩ := hq71
  obtain ⟨c, ec, e⟩ := bnd e
  refine ⟨c, ec, ?_⟩
  cases c with
  | true => rw [if_pos rfl] at e ⊢; cases e; exact q
  | false => rw [if_neg Bool.false_ne_true] at e ⊢; exact ⟨d, e, q⟩
theorem one4 {op} (ha : PE4 X a fa) : PE4 X (.BoolOp op [a] pos) fa := one3 ha
theorem and4 (ha : PE4 X a fa) (hb : PE4 X (.BoolOp .And (b :: rest) pos) fb) : PE4 X (.BoolOp .And (a :: b :: rest) pos) (eAnd fa fb) := cE (and3 ha hb) fun ρ Q hq72 => by
  obtain ⟨d, e, q⟩ := hq72
  obtain ⟨x, ex, e1⟩ := bnd e
  obtain ⟨c, ec, e⟩ := bnd e1
  clear e1
  refine ⟨x, ex, ?_⟩
  cases x <;> first | cases ec; done | skip
  cases ec
  cases c with
  | true => rw [if_pos rfl] at e; exact ⟨d, e, q⟩
  | false => rw [if_neg Bool.false_ne_true] at e; cases e; exact q
theorem not4 (ha : PE4 X a fa) : PE4 X (.UnaryOp .Not a pos) (eNot fa) := cE (not3 ha) fun ρ Q hq73 => by
  obtain ⟨d, e, q⟩ := hq73
  obtain ⟨x, ex, e⟩ := bnd e
  obtain ⟨c, ec, rfl⟩ := mpd e
  refine ⟨x, ex, ?_⟩
  cases x <;> first | cases ec; done | skip
  cases ec
  exact q
theorem neg4 (ha : PE4 X a fa) : PE4 X (.UnaryOp .USub a pos) (eNeg fa) := cE (neg3 ha) fun ρ Q hq74 => by
  obtain ⟨d, e, q⟩ := hq74
  obtain ⟨x, ex, e⟩ := bnd e
  refine ⟨x, ex, ?_⟩
  cases x <;> first | cases e; done | skip
  cases e
  exact q
theorem val4 {e : Expr} {f : EF} (h : PE4 X e f) (he : ∀ whole, isTrue e X.env whole = (do let v ← whole; standAt e.pos; holding [v] (truthy v)) := by intro _; rfl) : PT4 X e (tV f) :=
  impT (pt_truth h he) fun σ H Q hq75 => by
    obtain ⟨S, ρ, Q3, fc, sl, ⟨b, hb, q3⟩, k⟩ := hq75
    obtain ⟨d0, ed, et⟩ := bnd hb
    refine ⟨S, ρ, fun d => d = d0, fc, sl, ⟨d0, ed, rfl⟩, fun v H1 d s1 d1 q1 => ?_⟩
    subst q1
    cases d with
    | bl c => cases et; simp only [Dn] at d1; subst d1; exact ⟨_, rfl, k _ H1 s1 q3⟩
    | lst ds =>
      cases et
      simp only [Dn] at d1
      obtain ⟨a, xs, rfl, ha, sa, da⟩ := d1
      exact ⟨_, .inl ⟨xs, SqL.of ha, by rw [← da.empty]⟩, k _ H1 s1 q3⟩
    | tup ds =>
      cases et
      simp only [Dn] at d1
      obtain ⟨a, xs, rfl, ha, da⟩ := d1
      exact ⟨_, .inr (.inl ⟨xs, (SqT.of ha), by rw [← da.empty]⟩), k _ H1 s1 q3⟩
    | _ => cases et
end
end
end L4
end
section
set_option Elab.async false
set_option linter.all false
set_option maxRecDepth 100000
set_option maxHeartbeats 3999999
namespace L4
open PySem PySem.Spec PyProof.Rows L2 L3
section
variable {X : Cx}
theorem nil4 : PA4 X [] aNil := cA nil3 fun _ _ hq76 => by obtain ⟨_, e, q⟩ := hq76; cases e; exact q
theorem cons4 {e : Expr} {es : List Expr} {fe : EF} {t : AF} (ha : PE4 X e fe) (hr : PA4 X es t) (hs : starEach (e :: es) X.env = (false, eval e X.env) :: starEach es X.env := by rfl) : PA4 X (e :: es) (aCons fe t) := cA (cons3 ha hr hs) fun ρ Q hq77 => by
  obtain ⟨ds, e, q⟩ := hq77
  obtain ⟨d, ed, e⟩ := bnd e
  obtain ⟨r, er, e⟩ := bnd e
  cases e
  exact ⟨d, ed, r, er, q⟩
theorem tup4 {es : List Expr} {t : AF} {x1} {pos : Pos} (h : PA4 X es t) : PE4 X (.Tuple es x1 pos) (eTup t) := cE (tup3 h) fun ρ Q hq78 => by
  obtain ⟨d, e, q⟩ := hq78
  obtain ⟨ds, ed, e⟩ := bnd e
  exact ⟨ds, ed, szl (x := D.tup ds) e q⟩
theorem lst4 {es : List Expr} {t : AF} {pos : Pos} (h : PA4 X es t) : PF4 X (.List es pos) (eLst t) := cF (lst3 h) fun ρ Q hq79 => by
  obtain ⟨d, e, q⟩ := hq79
  obtain ⟨ds, ed, e⟩ := bnd e
  exact ⟨ds, ed, szl (x := D.lst ds) e q⟩
theorem tells_ix : Tells ixF ixM := fun x y d Q e q => by
  cases x <;> first | (cases e; done) | skip
  all_goals (cases y <;> first | (cases e; done) | skip)
  · have e : atI _ _ = some d := e
    show (match atI _ _ with | some d => Q d | none => False)
    rw [e]; exact q
  · have e : atI _ _ = some d := e
    show (match atI _ _ with | some d => Q d | none => False)
    rw [e]; exact q
  · obtain ⟨n, e1, rfl⟩ := mpd e
    have e1 : atI _ _ = some n := e1
    show (match atI _ _ with | some n => Q (.int n) | none => False)
    rw [e1]; exact q
theorem ix4 {a b : Expr} {pos : Pos} {fa fb : EF} (ha : PE4 X a fa) (hb : PE4 X b fb) (hs : PlainIx b := by intro _ _; rfl) : PE4 X (.Subscript a b pos) (eBin ixM fa fb) := cE (ix3 ha hb hs) (bin_w tells_ix)
theorem tells_ixD : Tells ixDF ixDM := fun x y d Q e q => by
  cases x <;> first | cases e; done | skip
  rename_i ks ds
  obtain ⟨k, ek, e⟩ := bnd e
  have ek : keyD y = some k := by cases y <;> first | exact ek | cases ek
  have e : lookD ks ds k = some d := e
  show (match D.dic ks ds, keyD y with
    | .dic ks ds, some k => (match lookD ks ds k with | some d => Q d | none => False)
    | _, _ => False)
  rw [ek]
  dsimp only
  rw [e]; exact q
theorem ixD4 {o i : Expr} {pos : Pos} {fo fi : EF} (hu : X.A.units + 1 < cLine) (ho : PE4 X o fo) (hi : PE4 X i fi) (hs : NoSl i := by intro _ _; rfl) : PE4 X (.Subscript o i pos) (eBin ixDM fo fi) := cE (ixD3 hu ho hi hs) (bin_w tells_ixD)
noncomputable def Tells1 (f : F1) (g : List D → Option D) : Prop := ∀ (ds : List D) (d : D) (Q : D → Prop), g ds = some d → Q d → f ds Q
theorem cb_w {f : F1} {g : List D → Option D} (h : Tells1 f g) {t : AF} (ρ : DEnv) (Q : D → Prop) (w : wE (eCB g t) ρ Q) : wCB f (wA t) ρ Q := by
  obtain ⟨d, e, q⟩ := w
  obtain ⟨ds, ed, e⟩ := bnd e
  exact ⟨ds, ed, h ds d Q e q⟩
theorem tells_len : Tells1 lenF lenM := fun ds d Q e q => by
  cases ds with
  | nil => cases e
  | cons a ds =>
    cases a <;> first | (cases e; done) | skip
    all_goals (cases ds <;> first | (cases e; exact q) | (cases e; done))
theorem tells_tuple : Tells1 tupleF tupleM := fun ds d Q e q => by
  cases ds with
  | nil => cases e
  | cons a ds =>
    cases a <;> first | (cases e; done) | skip
    all_goals (cases ds <;> first | (cases e; exact q) | (cases e; done))
theorem tells_list : Tells1 listF listM := fun ds d Q e q => by
  cases ds with
  | nil => cases e
  | cons a ds =>
    cases a <;> first | (cases e; done) | skip
    all_goals (cases ds <;> first | (cases e; exact q) | (cases e; done))
theorem len4 {p pos : Pos} {e : Expr} {t : AF} (hm : X.mg "len" = none) (ha : PA4 X [e] t) (hg : Gl X "len" := by rfl) (he : starEach [e] X.env = (false, eval e X.env) :: starEach [] X.env := by rfl) : PE4 X (.Call (.Name "len" p) [e] [] pos) (eCB lenM t) := cE (len3 hm ha hg he) (cb_w tells_len)
theorem tuple4 {p pos : Pos} {e : Expr} {t : AF} (hm : X.mg "tuple" = none) (ha : PA4 X [e] t) (hg : Gl X "tuple" := by rfl) (he : starEach [e] X.env = (false, eval e X.env) :: starEach [] X.env := by rfl) : PE4 X (.Call (.Name "tuple" p) [e] [] pos) (eCB tupleM t) := cE (tuple3 hm PyProof.Rows.boot_tuple ha hg he) (cb_w tells_tuple)
theorem list4 {p pos : Pos} {e : Expr} {t : AF} (hm : X.mg "list" = none) (ha : PA4 X [e] t) (hg : Gl X "list" := by rfl) (he : starEach [e] X.env = (false, eval e X.env) :: starEach [] X.env := by rfl) : PF4 X (.Call (.Name "list" p) [e] [] pos) (eCB listM t) := cF (list3 hm PyProof.Rows.boot_list ha hg he) (cb_w tells_list)
theorem intsOf_eq : ∀ ds : List D, L3.intsOf ds = L4.intsOf ds
  | [] => rfl
  | d :: ds => by
    cases d <;> first | rfl | skip
    show (L3.intsOf ds).map _ = (L4.intsOf ds).map _
    rw [intsOf_eq ds]
theorem insI_perm3 (a : Int) : ∀ l : List Int, (insI a l).Perm (a :: l)
  | [] => .refl _
  | b :: l => by
    unfold insI
    split
    · exact .refl _
    · exact ((insI_perm3 a l).cons b).trans (.swap a b l)
theorem sortI_perm3 : ∀ l : List Int, (sortI l).Perm l
  | [] => .refl _
  | a :: l => (insI_perm3 a (sortI l)).trans ((sortI_perm3 l).cons a)
theorem insI_sorted3 (a : Int) : ∀ l : List Int, l.Pairwise (· ≤ ·) → (insI a l).Pairwise (· ≤ ·)
  | [], _ => by simp [insI]
  | b :: l, h => by
    unfold insI
    split
    · rename_i hab
      refine List.pairwise_cons.mpr ⟨fun c hc => ?_, h⟩
      rcases List.mem_cons.mp hc with e | e
      · subst e; exact hab
      · exact Int.le_trans hab ((List.pairwise_cons.mp h).1 c e)
    · rename_i hab
      refine List.pairwise_cons.mpr ⟨fun c hc => ?_, insI_sorted3 a l (List.pairwise_cons.mp h).2⟩
      rcases List.mem_cons.mp ((insI_perm3 a l).mem_iff.mp hc) with e | e
      · subst e; omega
      · exact (List.pairwise_cons.mp h).1 c e
theorem sortI_sorted3 : ∀ l : List Int, (sortI l).Pairwise (· ≤ ·)
  | [] => List.Pairwise.nil
  | a :: l => insI_sorted3 a _ (sortI_sorted3 l)
theorem sorted_one : ∀ {l m : List Int}, l.Perm m → l.Pairwise (· ≤ ·) → m.Pairwise (· ≤ ·) → l = m
  | [], m, p, _, _ => by rw [p.nil_eq]
  | a :: l, [], p, _, _ => by have := p.length_eq; simp at this
  | a :: l, b :: m, p, h1, h2 => by
    have e : a = b := by
      have m1 := p.mem_iff.mp (List.mem_cons_self (a := a) (l := l))
      have m2 := p.mem_iff.mpr (List.mem_cons_self (a := b) (l := m))
      rcases List.mem_cons.mp m1 with e | e
      · exact e
      · rcases List.mem_cons.mp m2 with e2 | e2
        · exact e2.symm
        · have := (List.pairwise_cons.mp h2).1 a e
          have := (List.pairwise_cons.mp h1).1 b e2
          omega
    subst e
    rw [sorted_one p.cons_inv (List.pairwise_cons.mp h1).2 (List.pairwise_cons.mp h2).2]
theorem tells_sorted : Tells1 sortF sortedM := fun ds d Q e q => by
  unfold sortedM at e
  split at e
  · rename_i a
    obtain ⟨ns, e1, e⟩ := bnd e
    by_cases hl : ns.length < 64
    · rw [if_pos hl] at e
      cases e
      show (match L3.intsOf a with | some ns => ns.length < 64 ∧ ∀ ns' : List Int, ns'.Perm ns → ns'.Pairwise (· ≤ ·) → Q (.lst (ns'.map D.int)) | none => False)
      rw [intsOf_eq, e1]
      refine ⟨hl, fun ns' p s => ?_⟩
      rw [sorted_one (p.trans (sortI_perm3 ns).symm) s (sortI_sorted3 ns)]
      exact q
    · rw [if_neg hl] at e; cases e
  · cases e
theorem sorted4 {p pos : Pos} {e : Expr} {t : AF} (hm : X.mg "sorted" = none) (ha : PA4 X [e] t) (hg : Gl X "sorted" := by rfl) (he : starEach [e] X.env = (false, eval e X.env) :: starEach [] X.env := by rfl) : PF4 X (.Call (.Name "sorted" p) [e] [] pos) (eCB sortedM t) := cF (sorted3 hm ha hg he) (cb_w tells_sorted)
theorem isT_eq (T : String) (d : D) : isTM T d = isT T d := by cases d <;> rfl
theorem isi4 {T : String} {x : Str} {e : Expr} {f : EF} {p p2 pos : Pos} (hT : Ty4 T) (hm : X.mg "isinstance" = none) (hmT : X.mg x = none) (hv : bootBuiltins x = some (.type T)) (he : PE4 X e f) (hg : Gl X "isinstance" := by rfl) (hgT : Gl X x := by rfl) (hn : x ≠ "__name__" := by decide) (hdb : (x == ("__debug__" : Str)) = false := by decide)
    (hs : starEach [e, .Name x p2] X.env = (false, eval e X.env) :: starEach [.Name x p2] X.env := by rfl) (hs2 : starEach [.Name x p2] X.env = (false, eval (.Name x p2) X.env) :: starEach [] X.env := by rfl) (hpl : (backTo pos (starEach [.Name x p2] X.env)).any (·.1) = false := by rfl) :
    PE4 X (.Call (.Name "isinstance" p) [e, .Name x p2] [] pos) (eIsi T f) := cE (isi3 hT hm hmT hv he hg hgT hn hdb hs hs2 hpl) fun ρ Q hq80 => by
  obtain ⟨d, e, q⟩ := hq80
  obtain ⟨x, ex, e⟩ := bnd e
  by_cases hx : notE x = true
  · rw [if_pos hx] at e
    cases e
    exact ⟨x, ex, (by cases x <;> first | trivial | cases hx), by show Q (.bl (isT T x)); rw [← isT_eq]; exact q⟩
  · rw [if_neg hx] at e; cases e
noncomputable def sp4 (K : PySem.W.Frag) (R : FnF) : Sp := sp3 K fun ds Q => ∃ d, R ds = .ok d ∧ Q d
theorem call4 {k : Nat} {f : Addr} {fd : FuncData} {ps : List Str} {R : FnF} {x : Str} {p pos : Pos} {e : Expr} {es : List Expr} {t : AF} (F : FnOk X.prog X.w X.K X.mg X.base CX0 k f fd ps (sp4 X.K R)) (hr : Room k X.A) (hm : X.mg x = some (.ref f)) (hk : PySem.W.keepIn X.K (.ref f) = true) (hb : Binds X.K fd ps [])
    (ha : PA4 X (e :: es) t) (hg : Gl X x := by rfl) (hdb : (x == ("__debug__" : Str)) = false := by decide) (he : starEach (e :: es) X.env = (false, eval e X.env) :: starEach es X.env := by rfl) (hpl : (backTo pos (starEach es X.env)).any (·.1) = false := by rfl) :
    PE4 X (.Call (.Name x p) (e :: es) [] pos) (eCall R t) := cE (call3 F hr hm hk hb ha hg hdb he hpl) fun ρ Q hq81 => by
  obtain ⟨d, e, q⟩ := hq81
  obtain ⟨ds, ed, e⟩ := bnd e
  refine ⟨ds, ed, d, ?_, q⟩
  cases h : R ds with
  | ok d' => rw [h] at e; cases e; rfl
  | no => rw [h] at e; cases e
  | ex c => rw [h] at e; cases e
theorem listRange4 {a : Expr} {t : AF} {p pos p2 pos2 : Pos} (hc : X.calm = true) (hm : X.mg "list" = none) (hmr : X.mg "range" = none) (ha : PA4 X [a] t) (hg : Gl X "list" := by rfl) (hgr : Gl X "range" := by rfl) (hs : starEach [a] X.env = [(false, eval a X.env)] := by rfl)
    (he : starEach [.Call (.Name "range" p2) [a] [] pos2] X.env = (false, eval (.Call (.Name "range" p2) [a] [] pos2) X.env) :: starEach [] X.env := by rfl) :
    PF4 X (.Call (.Name "list" p) [.Call (.Name "range" p2) [a] [] pos2] [] pos) (eListR t) := cF (listRange3 hc hm hmr ha hg hgr hs he) fun ρ Q hq82 => by
  obtain ⟨d, e, q⟩ := hq82
  obtain ⟨ds, ed, e⟩ := bnd e
  refine ⟨ds, ed, ?_⟩
  split at e
  · rename_i j
    by_cases h : j.natAbs ≤ 16777216
    · rw [if_pos h] at e; cases e; exact ⟨⟨by omega, by omega⟩, q⟩
    · rw [if_neg h] at e; cases e
  · cases e
section
variable {tg : Expr}
theorem walk4 {l : Expr} {f : EF} (h : PE4 X l f) : PI4 X tg l (iWalk f) := cI (walk3 h) fun ρ Q hq83 => by
  obtain ⟨ds, e, q⟩ := hq83
  obtain ⟨d, ed, e⟩ := bnd e
  refine ⟨d, ed, ?_⟩
  cases d <;> first | cases e; done | skip
  all_goals (cases e; exact q)
theorem one_of {fa : EF} {ρ : DEnv} {as : List D} (h : aCons fa aNil ρ = some as) : ∃ a, fa ρ = some a ∧ as = [a] := by
  obtain ⟨a, ea, e⟩ := bnd h
  cases e
  exact ⟨a, ea, rfl⟩
theorem range14 {a : Expr} {fa : EF} {p pos : Pos} (hm : X.mg "range" = none) (ha : PE4 X a fa) (hg : Gl X "range" := by rfl) (hs : starEach [a] X.env = [(false, eval a X.env)] := by rfl) : PI4 X tg (.Call (.Name "range" p) [a] [] pos) (iRange (aCons fa aNil)) := cI (range3 hm (cons4 ha nil4 hs) hg hs) fun ρ Q hq84 => by
  obtain ⟨ds, e, q⟩ := hq84
  obtain ⟨as, ea, e⟩ := bnd e
  refine ⟨as, ea, ?_⟩
  obtain ⟨a, ha', rfl⟩ := one_of ea
  clear ea ha'
  cases a <;> first | cases e; done | skip
  rename_i j
  by_cases h : j.natAbs < 4611686018427387904
  · have e : (if j.natAbs < 4611686018427387904 then some ((rngP 0 j.toNat).map D.int) else none) = some ds := e
    rw [if_pos h] at e; cases e; exact ⟨⟨by omega, by omega⟩, q⟩
  · have e : (if j.natAbs < 4611686018427387904 then some ((rngP 0 j.toNat).map D.int) else none) = some ds := e
    rw [if_neg h] at e; cases e
end
theorem enumerate4 {a : Expr} {t : AF} {es : List Expr} {kk : Nat} {tp p pos : Pos} (hm : X.mg "enumerate" = none) (ha : PA4 X [a] t) (hg : Gl X "enumerate" := by rfl) (hs : starEach [a] X.env = [(false, eval a X.env)] := by rfl) : PI4 X (.Tuple es kk tp) (.Call (.Name "enumerate" p) [a] [] pos) (iEnum t) := cI (enumerate3 hm ha hg hs) fun ρ Q hq85 => by
  obtain ⟨ds, e, q⟩ := hq85
  obtain ⟨as, ea, e⟩ := bnd e
  refine ⟨as, ea, ?_⟩
  unfold enumM at e
  split at e <;> first | (cases e; exact q) | cases e
theorem compW_of {g : GEF} {t : TF} {e : EF} {ρ : DEnv} : ∀ (ds acc ys : List D) (Q : D → Prop), compF g t e ρ ds = some ys → acc.length + ds.length ≤ sizeLine → Q (.lst (acc ++ ys)) → compW (wGE g) (wT t) (wE e) ρ ds acc Q
  | [], acc, ys, Q, h, _, q => by
    cases h
    rw [compW]
    simpa using q
  | d :: ds, acc, ys, Q, h, hl, q => by
    rw [compW]
    obtain ⟨ρ1, e1, h⟩ := bnd h
    obtain ⟨b, e2, h⟩ := bnd h
    simp only [List.length_cons] at hl
    refine ⟨ρ1, e1, b, e2, ?_⟩
    cases b with
    | true =>
      rw [if_pos rfl] at h ⊢
      obtain ⟨y, e3, h⟩ := bnd h
      obtain ⟨zs, e4, rfl⟩ := mpd h
      exact ⟨y, e3, by omega, compW_of ds (acc ++ [y]) zs Q e4 (by simp; omega) (by simpa using q)⟩
    | false =>
      rw [if_neg Bool.false_ne_true] at h ⊢
      exact compW_of ds acc ys Q h (by omega) q
theorem comp_w {nl : Nat} {fr : List Nat} {it : AF} {g : GEF} {t : TF} {e : EF} (ρ : DEnv) (Q : D → Prop) (w : wE (eComp nl fr it g t e) ρ Q) : wComp nl fr (wI it) (wGE g) (wT t) (wE e) ρ Q := by
  obtain ⟨d, h, q⟩ := w
  obtain ⟨ds, e1, h⟩ := bnd h
  refine ⟨ds, e1, ?_⟩
  by_cases hl : ds.length ≤ szL
  · rw [if_pos hl] at h
    obtain ⟨ys, e2, rfl⟩ := mpd h
    exact compW_of ds [] ys Q e2 (by rw [sizeLine_eq, List.length_nil, Nat.zero_add]; exact hl) (by simpa using q)
  · rw [if_neg hl] at h; cases h
noncomputable abbrev PG44 (X : Cx) (nl : Nat) (tg : Expr) (g : GEF) : Prop := PG4 X nl tg (wGE g)
noncomputable abbrev PIf4 (X : Cx) (ifs : List Expr) (t : TF) : Prop := PIf3 X ifs (wT t)
theorem cG {nl : Nat} {tg : Expr} {g g' : GE} (h : PG4 X nl tg g) (c : ∀ d ρ Q, g' d ρ Q → g d ρ Q) : PG4 X nl tg g' := impG h fun _ _ _ _ hq86 => by obtain ⟨S, ρ, d, Q3, hl, fc, sl, dn, hg, k⟩ := hq86; exact ⟨S, ρ, d, Q3, hl, fc, sl, dn, c d ρ Q3 hg, k⟩
theorem bname4 {nl i : Nat} {x : Str} {pos : Pos} (nd : X.N.Nodup) (hil : i < nl) (hi : X.N[i]? = some x := by rfl) (hx : Loc X.env.scope x := by first | exact .inl rfl | exact .inr rfl) (hfx : X.fn x = true ∨ X.env.scope.names.lookup x = some .local := by first | exact .inr rfl | exact .inl rfl) : PG44 X nl (.Name x pos) (g1 i) := cG (bname nd hil hi hx hfx) fun d ρ Q hq87 => by obtain ⟨ρ', e, q⟩ := hq87; cases e; exact q
theorem pair_of {d : D} {p : D × D} (h : pairM d = some p) : d = .tup [p.1, p.2] := by
  cases d <;> first | (cases h; done) | skip
  rename_i l
  cases l with
  | nil => cases h
  | cons a l =>
    cases l with
    | nil => cases h
    | cons b l =>
      cases l with
      | nil => cases h; rfl
      | cons c l => cases h
theorem noif4 : PIf4 X [] tTrue := fun pins s σ H Q I hq88 => by obtain ⟨S, ρ, Q3, fc, sl, ⟨_, e, q⟩, k⟩ := hq88; cases e; exact noif pins s σ H Q I ⟨S, ρ, Q3, fc, sl, q, k⟩
theorem oneif4 {c : Expr} {t : TF} (h : PT4 X c t) : PIf4 X [c] t := oneif h
section
variable {ls fs : List Str} {fr : List Nat} {sc : Scope} {tg iter elt : Expr} {ifs : List Expr} {pos : Pos} {it : AF} {g : GEF} {t : TF} {e : EF}
theorem comp4 (hc : X.calm = true) (hi : PI4 X tg iter it)
    (hg : ∀ cl C pn ex s H, (blk X (ls ++ fs) sc cl C pn ex s H).N.Nodup → PG44 (blk X (ls ++ fs) sc cl C pn ex s H) ls.length tg g) (hf : ∀ cl C pn ex s H, PIf4 (blk X (ls ++ fs) sc cl C pn ex s H) ifs t) (he : ∀ cl C pn ex s H, PE4 (blk X (ls ++ fs) sc cl C pn ex s H) elt e)
    (B : chk X.env.scope.names sc X.N ls fs fr = true := by rfl) (hs : ∀ x, foldedSetIterable iter X.env x = pure x := by intro _; rfl) : PF4 X (.ListComp elt [⟨tg, iter, ifs, 0⟩] sc pos) (eComp ls.length fr it g t e) := cF (comp3 hc hi hg hf he B hs) comp_w
variable {i : Nat} {x : Str} {spos pos' : Pos}
end
end
end L4
end
section
set_option Elab.async false
set_option linter.all false
set_option maxRecDepth 100000
set_option maxHeartbeats 3999999
namespace L4
open PySem PySem.Spec PyProof.Rows L2 L3
section
variable {X : Cx}
theorem cO {e : Option Expr} {t t' : WO} (h : PO3 X e t) (c : ∀ ρ Q, t' ρ Q → t ρ Q) : PO3 X e t' := fun pins s σ H Q I hq89 => by obtain ⟨S, ρ, Q3, fc, sl, ht, k⟩ := hq89; exact h pins s σ H Q I ⟨S, ρ, Q3, fc, sl, c ρ Q3 ht, k⟩
theorem no4 : PO4 X none oNo := cO po3n fun _ _ hq90 => by obtain ⟨_, e, q⟩ := hq90; cases e; exact q
theorem po4 {e : Expr} {f : EF} (h : PE4 X e f) : PO4 X (some e) (oE f) := cO (po3 h) fun ρ Q hq91 => by
  obtain ⟨o, e, q⟩ := hq91
  obtain ⟨d, ed, e⟩ := bnd e
  obtain ⟨i, ei, rfl⟩ := mpd e
  refine ⟨d, ed, ?_⟩
  cases d <;> first | cases ei; done | skip
  cases ei; exact q
theorem sl4 {e : Expr} {lo hi : Option Expr} {p2 pos : Pos} {f : EF} {fl fh : OF} (he : PE4 X e f) (hl : PO4 X lo fl) (hh : PO4 X hi fh) : PE4 X (.Subscript e (.Slice lo hi none p2) pos) (eSl f fl fh) := cE (sl3 he hl hh) fun ρ Q hq92 => by
  obtain ⟨r, e, q⟩ := hq92
  obtain ⟨d, ed, e⟩ := bnd e
  obtain ⟨l, el, e⟩ := bnd e
  obtain ⟨h, eh, e⟩ := bnd e
  refine ⟨d, ed, l, el, h, eh, ?_⟩
  cases d <;> first | cases e; done | skip
  all_goals (cases e; exact q)
theorem px4 {e : Expr} {f : EF} (h : PE4 X e f) : PX4 X e (xPure f) := cX (px3 h) fun ρ Q hq93 => by
  obtain ⟨p, e, q⟩ := hq93
  obtain ⟨d, ed, e⟩ := bnd e
  refine ⟨d, ed, ?_⟩
  by_cases hi : d.imm = true
  · rw [if_pos hi] at e; cases e; exact ⟨hi, q⟩
  · rw [if_neg hi] at e; cases e
theorem pxr4 {e : Expr} {f : EF} (h : PE4 X e f) : PX4 X e (xPureR f) := cX (pxr3 h) fun ρ Q hq94 => by
  obtain ⟨p, e, q⟩ := hq94
  obtain ⟨d, ed, e⟩ := bnd e
  cases e
  exact ⟨d, ed, q⟩
theorem own_of {o : Option Sv} {ds : List D} (h : ownL o = some ds) : o = some (.ow (.lst ds)) := by
  unfold ownL at h
  split at h
  · cases h; rfl
  · cases h
noncomputable def TellsM (f : List D → D → (List D → D → Prop) → Prop) (m : List D → D → Option (List D × D)) : Prop := ∀ ds d q (Q : List D → D → Prop), m ds d = some q → Q q.1 q.2 → f ds d Q
theorem m1_w {i : Nat} {f : List D → D → (List D → D → Prop) → Prop} {m : List D → D → Option (List D × D)} (h : TellsM f m) {x : XF} (ρ : SEnv) (Q : SEnv → D → Prop) (w : wX (xM1 i m x) ρ Q) : wM1 i f (wX x) ρ Q := by
  obtain ⟨r, e, q⟩ := w
  obtain ⟨ds0, e0, e⟩ := bnd e
  obtain ⟨p, ep, e⟩ := bnd e
  obtain ⟨ds, e1, e⟩ := bnd e
  obtain ⟨z, ez, rfl⟩ := mpd e
  have o0 := own_of e0
  have o1 := own_of e1
  refine ⟨by rw [o0]; trivial, p, ep, ?_⟩
  show (match p.1[i]? with | some (.ow (.lst ds)) => f ds p.2 fun ds' r => Q (p.1.set i (.ow (.lst ds'))) r | _ => False)
  rw [o1]
  exact h ds p.2 z _ ez q
theorem tells_app : TellsM appF appM := fun ds d q Q e k => by
  unfold appM at e
  by_cases h : ds.length < szL
  · rw [if_pos h] at e; cases e; exact ⟨by rw [sizeLine_eq]; exact h, k⟩
  · rw [if_neg h] at e; cases e
theorem tells_pop : TellsM popF popM := fun ds d q Q e k => by
  cases d <;> first | cases e; done | skip
  rename_i i
  have e : (if i.natAbs < 9223372036854775808 then (ixP ds.length i).bind fun j => (ds[j]?).map fun d => (ds.eraseIdx j, d) else none) = some q := e
  by_cases h : i.natAbs < 9223372036854775808
  · rw [if_pos h] at e
    obtain ⟨j, ej, e⟩ := bnd e
    obtain ⟨d, ed, rfl⟩ := mpd e
    have ej : ixN ds.length i = some j := ej
    refine ⟨⟨by omega, by omega⟩, ?_⟩
    show (match ixN ds.length i with | some j => (match ds[j]? with | some d => Q (ds.eraseIdx j) d | none => False) | none => False)
    rw [ej]
    dsimp only
    rw [ed]
    exact k
  · rw [if_neg h] at e; cases e
section
variable {i : Nat} {x : Str} {e : Expr} {p apos cpos : Pos} {f : XF}
theorem app4 (he : PX4 X e f) (hN : X.N[i]? = some x := by rfl) (hv : Vis X.env.scope x := by first | exact Or.inl rfl | exact Or.inr (Or.inl rfl) | exact Or.inr (Or.inr rfl)) (hd : (x == ("__debug__" : Str)) = false := by decide) (hcd : (x == ("__classdict__" : Str)) = false := by decide)
    (hbase : attributeBase (.Name x p) "append" X.env (eval (.Name x p) X.env) = eval (.Name x p) X.env := by rfl)
    (hfew : ((backTo cpos (starEach [e] X.env)).all (fun x => !x.1) && (backToKw cpos (keywordEach [] X.env)).all (fun x => x.1.isSome)
      && decide ([e].length + ([] : List Keyword).length + (if ([] : List Keyword).isEmpty then 0 else 1) < 30)) = true := by rfl)
    (hline : (apos.endLine == cpos.line) = true := by rfl) (hs : starEach [e] X.env = (false, eval e X.env) :: starEach [] X.env := by rfl) :
    PX4 X (.Call (.Attribute (.Name x p) "append" apos) [e] [] cpos) (xM1 i appM f) := cX (app3 he hN hv hd hcd hbase hfew hline hs) (m1_w tells_app)
theorem pop4 (he : PX4 X e f) (hN : X.N[i]? = some x := by rfl) (hv : Vis X.env.scope x := by first | exact Or.inl rfl | exact Or.inr (Or.inl rfl) | exact Or.inr (Or.inr rfl)) (hd : (x == ("__debug__" : Str)) = false := by decide) (hcd : (x == ("__classdict__" : Str)) = false := by decide)
    (hbase : attributeBase (.Name x p) "pop" X.env (eval (.Name x p) X.env) = eval (.Name x p) X.env := by rfl)
    (hfew : ((backTo cpos (starEach [e] X.env)).all (fun x => !x.1) && (backToKw cpos (keywordEach [] X.env)).all (fun x => x.1.isSome)
      && decide ([e].length + ([] : List Keyword).length + (if ([] : List Keyword).isEmpty then 0 else 1) < 30)) = true := by rfl)
    (hline : (apos.endLine == cpos.line) = true := by rfl) (hs : starEach [e] X.env = (false, eval e X.env) :: starEach [] X.env := by rfl) :
    PX4 X (.Call (.Attribute (.Name x p) "pop" apos) [e] [] cpos) (xM1 i popM f) := cX (pop3 he hN hv hd hcd hbase hfew hline hs) (m1_w tells_pop)
end
theorem end4 : PSs4 X [] sEnd := cSs end3 fun _ _ w => w
theorem seq_w {f g : SF} (E : DE) (ρ : SEnv) (w : wS (sSeq f g) E ρ) : wSeq (wS f) (wS g) E ρ := by
  unfold wS sSeq at w
  unfold wSeq wS
  cases h : f ρ with
  | nx ρ' => rw [h] at w; exact w
  | rt d => rw [h] at w; exact w
  | no => rw [h] at w; exact w
  | ex c => rw [h] at w; exact w
theorem seq4 {st : Stmt} {rest : List Stmt} {f g : SF} (h1 : PS4 X st f) (h2 : PSs4 X rest g) : PSs4 X (st :: rest) (sSeq f g) := cSs (seq3 h1 h2) seq_w
theorem last4 {st : Stmt} {f : SF} (h1 : PS4 X st f) : PSs4 X [st] f := last3 h1
theorem ret4 {e : Expr} {f : EF} {pos : Pos} (h : PE4 X e f) : PS4 X (.Return (some e) pos) (sRet f) := cS (ret3 h) fun E ρ w => by
  unfold wS sRet at w
  cases h : f (vAll ρ) with
  | none => rw [h] at w; exact w.elim
  | some d => rw [h] at w; exact ⟨d, h, w⟩
theorem ifS4 {c : Expr} {a b : List Stmt} {pos : Pos} {t : TF} {f g : SF} (hc : PT4 X c t) (ha : PSs4 X a f) (hb : PSs4 X b g) : PS4 X (.If c a b pos) (sIf t f g) := cS (ifS3 hc ha hb) fun E ρ w => by
  unfold wS sIf at w
  cases h : t (vAll ρ) with
  | none => rw [h] at w; exact w.elim
  | some c =>
    rw [h] at w
    refine ⟨c, h, ?_⟩
    cases c with
    | true => rw [if_pos rfl]; exact w
    | false => rw [if_neg Bool.false_ne_true]; exact w
section
variable {i : Nat} {x : Str} {e : Expr} {f : EF} {pos pos' : Pos}
theorem set4 (hN : X.N.Nodup) (he : PE4 X e f) (hi : X.N[i]? = some x := by rfl) (hx : Loc X.env.scope x := by first | exact .inl rfl | exact .inr rfl) (hs : swapsWith e (some (.Name x pos')) pos.line X.env = pure false := by rfl) (hf : X.fn x = true ∨ X.env.scope.names.lookup x = some .local := by first | exact .inl rfl | exact .inr rfl) :
    PS4 X (.Assign [.Name x pos'] e pos) (sSet i f) := cS (set3 hN he hi hx hs hf) fun E ρ w => by
  unfold wS sSet at w
  cases h : f (vRd ρ) with
  | none => rw [h] at w; exact w.elim
  | some d => rw [h] at w; exact ⟨d, h, w⟩
theorem own4 (hN : X.N.Nodup) (he : PF4 X e f) (hi : X.N[i]? = some x := by rfl) (hx : Loc X.env.scope x := by first | exact .inl rfl | exact .inr rfl) (hs : swapsWith e (some (.Name x pos')) pos.line X.env = pure false := by rfl) (hf : X.fn x = true ∨ X.env.scope.names.lookup x = some .local := by first | exact .inl rfl | exact .inr rfl) :
    PS4 X (.Assign [.Name x pos'] e pos) (sOwn i f) := cS (own3 hN he hi hx hs hf) fun E ρ w => by
  unfold wS sOwn at w
  cases h : f (vRd ρ) with
  | none => rw [h] at w; exact w.elim
  | some d => rw [h] at w; exact ⟨d, h, w⟩
theorem setF4 (hN : X.N.Nodup) (he : PF4 X e f) (hi : X.N[i]? = some x := by rfl) (hx : Loc X.env.scope x := by first | exact .inl rfl | exact .inr rfl) (hs : swapsWith e (some (.Name x pos')) pos.line X.env = pure false := by rfl) (hf : X.fn x = true ∨ X.env.scope.names.lookup x = some .local := by first | exact .inl rfl | exact .inr rfl) :
    PS4 X (.Assign [.Name x pos'] e pos) (sSetF i f) := cS (setF3 hN he hi hx hs hf) fun E ρ w => by
  unfold wS sSetF at w
  cases h : f (vAll ρ) with
  | none => rw [h] at w; exact w.elim
  | some d =>
    rw [h] at w
    dsimp only at w
    by_cases hl : lstImm d = true
    · rw [if_pos hl] at w
      refine ⟨d, h, ?_, w⟩
      cases d <;> first | exact hl | cases hl
    · rw [if_neg hl] at w; exact w.elim
theorem setX4 {f : XF} (hN : X.N.Nodup) (he : PX4 X e f) (hi : X.N[i]? = some x := by rfl) (hx : Loc X.env.scope x := by first | exact .inl rfl | exact .inr rfl) (hs : swapsWith e (some (.Name x pos')) pos.line X.env = pure false := by rfl) (hf : X.fn x = true ∨ X.env.scope.names.lookup x = some .local := by first | exact .inl rfl | exact .inr rfl) :
    PS4 X (.Assign [.Name x pos'] e pos) (sSetX i f) := cS (setX3 hN he hi hx hs hf) fun E ρ w => by
  unfold wS sSetX at w
  cases h : f ρ with
  | none => rw [h] at w; exact w.elim
  | some d => rw [h] at w; exact ⟨d, h, w⟩
theorem ownDict4 {p : Pos} (hN : X.N.Nodup) (hi : X.N[i]? = some x := by rfl) (hx : Loc X.env.scope x := by first | exact .inl rfl | exact .inr rfl) (hs : swapsWith (.Dict [] [] p) (some (.Name x pos')) pos.line X.env = pure false := by rfl) (hf : X.fn x = true ∨ X.env.scope.names.lookup x = some .local := by first | exact .inl rfl | exact .inr rfl) :
    PS4 X (.Assign [.Name x pos'] (.Dict [] [] p) pos) (sOwnD i) := cS (ownDict3 hN hi hx hs hf) fun E ρ w => w
end
theorem expr4 {e : Expr} {f : XF} {pos : Pos} (he : PX4 X e f) (hs : swapsWith e none pos.line X.env = pure false := by rfl) : PS4 X (.Expr e pos) (sX f) := cS (expr3 he hs) fun E ρ w => by
  unfold wS sX at w
  cases h : f ρ with
  | none => rw [h] at w; exact w.elim
  | some d => rw [h] at w; exact ⟨d, h, w⟩
theorem put4 {i : Nat} {x : Str} {e k : Expr} {f : XF} {fk : EF} {pos pos' p : Pos} (he : PX4 X e f) (hk : PE4 X k fk)
    (hN : X.N[i]? = some x := by rfl) (hv : Vis X.env.scope x := by first | exact Or.inl rfl | exact Or.inr (Or.inl rfl) | exact Or.inr (Or.inr rfl)) (hd : (x == ("__debug__" : Str)) = false := by decide) (hcd : (x == ("__classdict__" : Str)) = false := by decide)
    (ha : ∀ v, assign (.Subscript (.Name x p) k pos') X.env v = (do
      let ov ← holding [v] (eval (.Name x p) X.env)
      let iv ← holding [v, ov] (eval k X.env)
      standAt pos'
      holding [v, ov, iv] (setItem ov iv v)
      release [v, ov, iv] []) := by intro _; rfl)
    (hs : swapsWithSole [.Subscript (.Name x p) k pos'] e pos.line X.env = pure false := by rfl) (hw : swappedStores [.Subscript (.Name x p) k pos'] e X.env = pure none := by rfl)
    (h1 : (assignEach [.Subscript (.Name x p) k pos'] X.env).map (·.2) = [assign (.Subscript (.Name x p) k pos') X.env] := by rfl) :
    PS4 X (.Assign [.Subscript (.Name x p) k pos'] e pos) (sPut i f fk) := cS (put3 he hk hN hv hd hcd ha hs hw h1) fun E ρ w => by
  unfold wS sPut at w
  cases h : ((f ρ).bind fun p => (ownL p.1[i]?).bind fun ds => (fk (vAll p.1)).bind fun kd => (asInt kd).bind fun kk => (ixP ds.length kk).map fun j => p.1.set i (.ow (.lst (ds.set j p.2)))) with
  | none => rw [h] at w; exact w.elim
  | some ρ' =>
    rw [h] at w
    obtain ⟨q, eq, h⟩ := bnd h
    obtain ⟨ds, ed, h⟩ := bnd h
    obtain ⟨kd, ek, h⟩ := bnd h
    obtain ⟨kk, e2, h⟩ := bnd h
    obtain ⟨j, ej, rfl⟩ := mpd h
    have o := own_of ed
    refine ⟨q, eq, by unfold isOw; rw [o]; trivial, kd, ek, ?_⟩
    cases kd <;> first | cases e2; done | skip
    cases e2
    have ej : ixN ds.length kk = some j := ej
    show (match q.1[i]?, D.int kk with
      | some (.ow (.lst ds)), .int k => (match ixN ds.length k with | some j => E.nx (q.1.set i (.ow (.lst (ds.set j q.2)))) | none => False)
      | _, _ => False)
    rw [o]
    dsimp only
    rw [ej]
    exact w
theorem ownDic_of {o : Option Sv} {p : List (Sum Int Str) × List D} (h : ownDic o = some p) : o = some (.ow (.dic p.1 p.2)) := by
  unfold ownDic at h
  split at h
  · cases h; rfl
  · cases h
theorem putN4 {i : Nat} {x : Str} {e k : Expr} {f : XF} {fk : EF} {pos pos' p : Pos} (hu : X.A.units + 1 < cLine) (he : PX4 X e f) (hk : PE4 X k fk)
    (hN : X.N[i]? = some x := by rfl) (hv : Vis X.env.scope x := by first | exact Or.inl rfl | exact Or.inr (Or.inl rfl) | exact Or.inr (Or.inr rfl)) (hd : (x == ("__debug__" : Str)) = false := by decide) (hcd : (x == ("__classdict__" : Str)) = false := by decide)
    (hs : swapsWith e (some (.Subscript (.Name x p) k pos')) pos.line X.env = pure false := by rfl) :
    PS4 X (.Assign [.Subscript (.Name x p) k pos'] e pos) (sPutN i f fk) := cS (putN3 hu he hk hN hv hd hcd hs) fun E ρ w => by
  unfold wS sPutN at w
  cases h : ((f ρ).bind fun p => (ownDic p.1[i]?).bind fun kd => (fk (vAll p.1)).bind fun kv => (keyM kv).bind fun kk =>
    if (lookM kd.1 kd.2 kk).isNone = true ∧ kd.2.length < szL then some (p.1.set i (.ow (.dic (kd.1 ++ [kk]) (kd.2 ++ [p.2])))) else none) with
  | none => rw [h] at w; exact w.elim
  | some ρ' =>
    rw [h] at w
    obtain ⟨q, eq, h⟩ := bnd h
    obtain ⟨kd, ed, h⟩ := bnd h
    obtain ⟨kv, ek, h⟩ := bnd h
    obtain ⟨kk, e2, h⟩ := bnd h
    have o := ownDic_of ed
    by_cases hc : (lookM kd.1 kd.2 kk).isNone = true ∧ kd.2.length < szL
    · rw [if_pos hc] at h
      cases h
      refine ⟨q, eq, by rw [o]; trivial, kv, ek, ?_⟩
      have e3 : keyD kv = some kk := by cases kv <;> first | exact e2 | cases e2
      show (match q.1[i]?, keyD kv with
        | some (.ow (.dic ks ds)), some k => (lookD ks ds k = none ∧ ds.length < sizeLine) ∧ E.nx (q.1.set i (.ow (.dic (ks ++ [k]) (ds ++ [q.2]))))
        | _, _ => False)
      rw [o, e3]
      refine ⟨⟨?_, by rw [sizeLine_eq]; exact hc.2⟩, w⟩
      have := hc.1
      cases hl : lookM kd.1 kd.2 kk with
      | none => exact hl
      | some d => rw [hl] at this; cases this
    · rw [if_neg hc] at h; cases h
theorem cGS {tg : Expr} {g g' : WG} (h : PG3 X tg g) (c : ∀ d ρ Q, g' d ρ Q → g d ρ Q) : PG3 X tg g' := impG h fun _ _ _ _ hq95 => by obtain ⟨H₀, S, w, ρ, G, d, Q3, hl, st, dn, hg, k⟩ := hq95; exact ⟨H₀, S, w, ρ, G, d, Q3, hl, st, dn, c d ρ Q3 hg, k⟩
theorem name4 {i : Nat} {x : Str} {pos : Pos} (hN : X.N.Nodup) (hi : X.N[i]? = some x := by rfl) (hx : Loc X.env.scope x := by first | exact .inl rfl | exact .inr rfl) (hf : X.fn x = true ∨ X.env.scope.names.lookup x = some .local := by first | exact .inl rfl | exact .inr rfl) : PG3 X (.Name x pos) (wG (gN1 i)) :=
  cGS (name3 hN hi hx hf) fun d ρ Q hq96 => by obtain ⟨ρ', e, q⟩ := hq96; cases e; exact q
theorem pair4 {i j : Nat} {x y : Str} {k : Nat} {pos px py : Pos} (hc : X.calm = true) (hN : X.N.Nodup) (hi : X.N[i]? = some x := by rfl) (hj : X.N[j]? = some y := by rfl) (hx : Loc X.env.scope x := by first | exact .inl rfl | exact .inr rfl) (hy : Loc X.env.scope y := by first | exact .inl rfl | exact .inr rfl)
    (hf : X.fn x = true ∨ X.env.scope.names.lookup x = some .local := by first | exact .inl rfl | exact .inr rfl) (hf2 : X.fn y = true ∨ X.env.scope.names.lookup y = some .local := by first | exact .inl rfl | exact .inr rfl)
    (hn : (assignEach [.Name x px, .Name y py] X.env).length = 2 := by rfl) (hst : (assignEach [.Name x px, .Name y py] X.env).findIdx? (·.1) = none := by rfl)
    (hs1 : (assignEach [.Name x px, .Name y py] X.env).map (·.2) = assign (.Name x px) X.env :: (assignEach [.Name y py] X.env).map (·.2) := by rfl) (hs2 : (assignEach [.Name y py] X.env).map (·.2) = assign (.Name y py) X.env :: (assignEach [] X.env).map (·.2) := by rfl) :
    PG3 X (.Tuple [.Name x px, .Name y py] k pos) (wG (gN2 i j)) := cGS (pair3 hc hN hi hj hx hy hf hf2 hn hst hs1 hs2) fun d ρ Q hq97 => by
  obtain ⟨ρ', e, q⟩ := hq97
  obtain ⟨p, ep, rfl⟩ := mpd e
  rw [pair_of ep]
  exact q
theorem for4 {tg iter : Expr} {body : List Stmt} {it : AF} {g : GSF} {b : SF} {pos : Pos} (hc : X.calm = true) (hp : PassesOwn (model X.prog X.w) X.A X.env X.xe) (hi : PI4 X tg iter it) (hg : PG3 X tg (wG g)) (hb : PSs4 X body b)
    (hs : ∀ x, foldedSetIterable iter X.env x = pure x := by intro _; rfl) : PS4 X (.For tg iter body [] pos) (sFor it g b) := cS (for3 hc hp hi hg hb hs) fun E ρ w => by
  unfold wS sFor at w
  cases h : it (vRd ρ) with
  | none => rw [h] at w; exact w.elim
  | some ds =>
    rw [h] at w
    refine ⟨ds, h, fun i ρ' => wS (loopF g b (ds.drop i)) E ρ', (by show wS (loopF g b (ds.drop 0)) E ρ; rw [List.drop_zero]; exact w), fun i d ρ' hd iv => ?_, fun ρ' iv => ?_⟩
    · have hi : i < ds.length := (List.getElem?_eq_some_iff.mp hd).1
      have e1 : ds[i] = d := (List.getElem?_eq_some_iff.mp hd).2
      have iv : wS (loopF g b (ds.drop i)) E ρ' := iv
      rw [List.drop_eq_getElem_cons hi, e1] at iv
      unfold wS loopF at iv
      cases hg : g d ρ' with
      | none => rw [hg] at iv; exact iv.elim
      | some ρ1 =>
        rw [hg] at iv
        dsimp only at iv
        refine ⟨ρ1, hg, ?_⟩
        unfold wS
        cases hb : b ρ1 with
        | nx ρ2 => rw [hb] at iv; dsimp only; rw [hb]; exact iv
        | rt d => rw [hb] at iv; dsimp only; rw [hb]; exact iv
        | no => rw [hb] at iv; dsimp only; rw [hb]; exact iv
        | ex c => rw [hb] at iv; dsimp only; rw [hb]; exact iv
    · have iv : wS (loopF g b (ds.drop ds.length)) E ρ' := iv
      rw [List.drop_length] at iv
      exact iv
end
theorem fun4 {P : Program} {w : World} {K : PySem.W.Frag} {mg : Str → Option Value} {base : Heap} {x qual : Str} {st : Stmt} {f : Addr} {fd : FuncData} {N ps : List Str} {k n np : Nat} {b : SF} (F : Fun K x qual st f fd) (S : FnScope N ps (defScope st)) (hn : N.length = n) (hp : ps.length = np)
    (hbody : ∀ (cdv : Value) (A : Around) (outer : List Env) (s : Shared) (H : Hp) (E : XK), Room k (A.deeper (envOfC qual (defScope st) s.heap.objs.size f cdv)) →
      PSs4 (cxOf CX0 P w K mg base N qual (defScope st) f cdv A outer s H E).nox (defBody st) b) : FnOk P w K mg base CX0 (k + 1) f fd ps (sp4 K (runF n np b)) := by
  subst hn hp
  refine fun3 F S (fun ds Q ⟨d, e, q⟩ => ?_) fun cdv A outer s H E hr => ⟨_, hbody cdv A outer s H E hr, fun ds Q ⟨d, e, q⟩ => ?_⟩
  · unfold runF at e
    by_cases h : ds.length = ps.length
    · exact h
    · rw [if_neg h] at e; cases e
  · unfold runF at e
    by_cases h : ds.length = ps.length
    · rw [if_pos h] at e
      have e2 : start3 N ds = startS N.length ds := rfl
      unfold wS
      rw [e2]
      cases hb : b (startS N.length ds) with
      | rt d' => rw [hb] at e; cases e; exact q
      | nx ρ => rw [hb] at e; cases e; exact q
      | no => rw [hb] at e; cases e
      | ex c => rw [hb] at e; cases e
    · rw [if_neg h] at e; cases e
theorem none4 {P : Program} {w : World} {K : PySem.W.Frag} {mg : Str → Option Value} {base : Heap} {k : Nat} {f : Addr} {fd : FuncData} {ps : List Str} : FnOk P w K mg base CX0 k f fd ps (sp4 K fun _ => .no) :=
  ⟨fun _ _ _ _ h => (by obtain ⟨_, _, _, _, _, ⟨_, e, _⟩, _⟩ := h; cases e), fun _ _ _ _ _ _ _ _ _ _ _ _ _ h => (by obtain ⟨_, _, _, _, _, ⟨_, e, _⟩, _⟩ := h; cases e)⟩
end L4
end
section
set_option Elab.async false
set_option linter.all false
set_option maxRecDepth 100000
set_option maxHeartbeats 3999999
namespace L4
open PySem PySem.Spec PyProof.Rows L2 L3
section
variable {X : Cx} {pins : List (Addr × Obj)} {σ : L2.St} {H : Hp}
theorem truth_still {s : Shared} {x : V} {v : Value} {k : Bool} {A : Around} {E : Value → Shared → Prop} {Q : Bool → Shared → Prop} (I : Inv X pins σ H s) (rx : RelV x v) (e : x = .bl k ∨ (∃ p xs, x = .ref p ∧ (SqL X.K H p xs ∨ SqT X.K H p xs) ∧ k = !xs.isEmpty))
    (q : ∀ tk, Q k { s with toks := tk }) : wpAny (model X.prog X.w) A (truthy v) Q E s := by
  have hs : sizeLine = 16777216 := sizeLine_eq
  rcases e with rfl | ⟨p, xs, rfl, hx, rfl⟩
  · cases rx
    exact wpAny_truthy_bool (q s.toks)
  · cases rx
    rcases hx with hx | hx
    · obtain ⟨its, r, pl, hz⟩ := I.list hx
      have hlen := r.length
      exact wpAny_truthy_list pl.isList (by simp only [List.size_toArray]; omega) (by rw [isEmpty_of r]; exact q _)
    · obtain ⟨its, r, pl, hz⟩ := I.tuple hx
      have hlen := r.length
      exact truthy_tuple pl (by simp only [List.size_toArray]; omega) (by rw [isEmpty_of r]; exact q _)
noncomputable def TrV (K : PySem.W.Frag) (H : Hp) (x : V) (k : Bool) : Prop := x = .bl k ∨ (∃ p xs, x = .ref p ∧ (SqL K H p xs ∨ SqT K H p xs) ∧ k = !xs.isEmpty)
theorem drop_here {n j : Nat} (h : j < n) : (List.range n).drop j = j :: (List.range n).drop (j + 1) := by
  have hl : j < (List.range n).length := by rw [List.length_range]; exact h
  rw [List.drop_eq_getElem_cons hl, List.getElem_range]
section
variable {it : Addr} {fp wr : List Addr} {n : Nat} {P : Nat → Value → Prop} {St : Nat → Heap → Prop} {R : Result → Shared → Prop} {tr : Nat → Bool}
theorem turns_all (W : Walks X.prog X.w X.A.in1 it fp wr n P St) (hf : ∀ b ∈ wr, FpOk X pins H b) (ht : ∀ j v, P j v → ∃ x, RelV x v ∧ TrV X.K H x (tr j)) :
    ∀ (m j : Nat) (st : Shared), m + j = n → Inv X pins σ H st → St j st.heap → (∀ st', Inv X pins σ H st' → R (.ok (.ret (.bool (((List.range n).drop j).all tr)))) st') → codeAny (model X.prog X.w) X.A (.builtin "all.loop" ⟨[.ref it], []⟩) R st
  | 0, j, st, hj, I, hS, k => by
    obtain rfl : j = n := by omega
    refine codeAny_builtin (F.entry_all_loop) ?_
    rw [Around.under_plainId F.plain_all_loop]
    refine wpAny_bind (W.done st _ _ hS fun h2 t2 kp => wpAny_bind (wpAny_rule (wpAny_pure ?_)))
    have := k _ (turnM (t' := t2) I kp hf)
    rwa [List.drop_eq_nil_of_le (by simp)] at this
  | m + 1, j, st, hj, I, hS, k => by
    have hjn : j < n := by omega
    refine codeAny_builtin (F.entry_all_loop) ?_
    rw [Around.under_plainId F.plain_all_loop]
    refine wpAny_bind (W.item j st _ _ hjn hS fun v h2 t2 pv hS2 kp => ?_)
    have I2 : Inv X pins σ H { st with heap := h2, toks := t2 } := turnM (t' := t2) I kp hf
    obtain ⟨x, rx, hx⟩ := ht j v pv
    rw [drop_here hjn, List.all_cons] at k
    refine wpAny_bind (wpAny_holding (truth_still I2 rx hx fun t3 => wpAny_bind (wpAny_letGo ?_)))
    have I3 : Inv X pins σ H { st with heap := h2, toks := t3 } := I2.tok t3
    cases hb : tr j with
    | true =>
      rw [hb, Bool.true_and] at k
      rw [if_pos rfl]
      exact wpAny_pure ⟨plainId_quiet F.plain_all_loop _, turns_all W hf ht m (j + 1) _ (by omega) I3 hS2 k⟩
    | false =>
      rw [hb, Bool.false_and] at k
      rw [if_neg Bool.false_ne_true]
      exact wpAny_bind (wpAny_rule (wpAny_pure (k _ I3)))
end
noncomputable def rTrs (f : List Bool → Bool) (K : PySem.W.Frag) : List V → Hp → VK → Prop := fun xs H Q => ∃ a ys bs, xs = [.ref a] ∧ H a = some (.lst ys) ∧ bs.length = ys.length ∧ (∀ (j : Nat) (y : V) (b : Bool), ys[j]? = some y → bs[j]? = some b → TrV K H y b) ∧ Q (.bl (f bs)) H
theorem call_all4 (hc : X.calm = true) : CallR X (.builtin "all") (rTrs (fun bs => bs.all id) X.K) := by
  intro pins s σ H xs us Q I r h
  obtain ⟨a, ys, bs, rfl, ha, hl, ht, q⟩ := h
  obtain ⟨u, rfl, ru⟩ := vals1 r
  cases ru
  obtain ⟨its, rv, p, hz⟩ := I.list (SqL.of ha)
  have hlt : a < s.heap.objs.size := by obtain ⟨o, n, e, _⟩ := p; exact Heap.lt_size e
  have hn : its.length = ys.length := rv.length.symm
  have ht2 : ∀ j v, its.toArray[j]? = some v → ∃ x, RelV x v ∧ TrV X.K H x (bs.getD j true) := fun j v e => by
    have e1 : its[j]? = some v := by simpa using e
    have hj : j < ys.length := by have := (List.getElem?_eq_some_iff.mp e1).1; omega
    obtain ⟨u, e2, ru⟩ := rv.get (List.getElem?_eq_getElem hj)
    rw [e1] at e2
    cases e2
    refine ⟨_, ru, ht j _ _ (List.getElem?_eq_getElem hj) ?_⟩
    rw [List.getD_eq_getElem?_getD, List.getElem?_eq_getElem (by omega)]
    rfl
  refine call_function_tree (F.kind_all) F.plain_all F.entry_all (F.args_all1 _) ?_
  unfold Builtin.«all»
  refine wpAny_bind (m := oneArg "all" _) (wpAny_pure (wpAny_bind (wpAny_pyIter_list p.isList (wpAny_pure ⟨plainId_quiet F.plain_all_loop _, ?_⟩))))
  have hfr : H s.heap.objs.size = none := I.hok.fresh (Nat.le_refl _)
  have I1 : Inv X pins σ H { s with heap := s.heap.push { cls := .type "list_iterator", data := .fields #[.ref a, rawInt 0] } } := I.kept (t' := s.toks) fun b o e => Heap.get?_push_of_some _ e
  refine turns_all (X := X) (pins := pins) (σ := σ) (H := H) (tr := fun j => bs.getD j true) (Walks.list (A := X.A.in1) (show X.A.in1.handled = none from I.ok.hd hc) s.heap.objs.size a (Nat.ne_of_lt hlt) its.toArray) (fun b hb => ?_) ht2 its.toArray.size 0 _ rfl I1
    ⟨⟨_, Heap.get?_push_size _ rfl, rfl, rfl⟩, p.isList.at fun o e => Heap.get?_push_of_some _ e⟩ fun st' I' => ?_
  · cases List.mem_singleton.mp hb
    exact I.fpOk (Nat.le_refl _) hfr
  · refine ⟨.bl _, H, I', rfl, ?_⟩
    rw [List.drop_zero, show its.toArray.size = bs.length by simp [hn, hl], range_all]
    exact q
theorem trs_w {K : PySem.W.Frag} {S : Addr → Prop} {H : Hp} : ∀ {es : List D} {ys : List V} {bs : List Bool}, Dns K S H es ys → truths es = some bs → bs.length = ys.length ∧ ∀ (j : Nat) (y : V) (b : Bool), ys[j]? = some y → bs[j]? = some b → TrV K H y b
  | [], ys, bs, dn, h => by
    simp only [Dns] at dn
    subst dn
    cases h
    exact ⟨rfl, fun j y b e => by simp at e⟩
  | d :: es, ys, bs, dn, h => by
    obtain ⟨v, r, rfl, h1, h2⟩ := dn.uncons
    obtain ⟨b, eb, h⟩ := bnd h
    obtain ⟨bs', e2, rfl⟩ := mpd h
    obtain ⟨hl, ih⟩ := trs_w h2 e2
    refine ⟨by simp [hl], fun j y c ey ec => ?_⟩
    cases j with
    | zero =>
      simp at ey ec
      subst ey ec
      cases d <;> first | cases eb; done | skip
      · cases eb; simp only [Dn] at h1; exact .inl h1
      · cases eb; simp only [Dn] at h1; obtain ⟨a, xs, rfl, ha, da⟩ := h1; exact .inr ⟨a, xs, rfl, .inr (SqT.of ha), by rw [← da.empty]⟩
      · cases eb; simp only [Dn] at h1; obtain ⟨a, xs, rfl, ha, _, da⟩ := h1; exact .inr ⟨a, xs, rfl, .inl (SqL.of ha), by rw [← da.empty]⟩
    | succ j => exact ih j y c (by simpa using ey) (by simpa using ec)
noncomputable def trF (f : List Bool → Bool) : F1
  | [.lst es], Q => ∃ bs, truths es = some bs ∧ Q (.bl (f bs))
  | _, _ => False
theorem c3_trs {K : PySem.W.Frag} {f : List Bool → Bool} : C3 K (rTrs f K) (trF f) := by
  intro S H xs ds Q3 Q fc hd hf k
  match ds, hf with
  | [.lst es], ⟨bs, eb, q⟩ =>
    obtain ⟨v, r, rfl, h1, h2⟩ := hd.uncons
    simp only [Dns] at h2
    subst h2
    simp only [Dn] at h1
    obtain ⟨a, ys, rfl, ha, sa, da⟩ := h1
    obtain ⟨hl, ht⟩ := trs_w da eb
    exact ⟨a, ys, bs, rfl, ha, hl, ht, k _ H _ (Same.refl H) (by simp only [Dn]) q⟩
theorem all4 {p pos : Pos} {e : Expr} {t : AF} (hc : X.calm = true) (hm : X.mg "all" = none) (ha : PA4 X [e] t) (hg : Gl X "all" := by rfl) (he : starEach [e] X.env = (false, eval e X.env) :: starEach [] X.env := by rfl) : PE4 X (.Call (.Name "all" p) [e] [] pos) (eCB allM t) :=
  cE (callB3 (call_all4 hc) c3_trs PyProof.Rows.boot_all hg hm ha (by decide) (by decide) he (by rfl)) (cb_w fun ds d Q e q => by
    unfold allM at e
    split at e
    · obtain ⟨bs, eb, rfl⟩ := mpd e; exact ⟨bs, eb, q⟩
    · cases e)
end
end L4
end
section
set_option Elab.async false
set_option linter.all false
set_option maxRecDepth 100000
set_option maxHeartbeats 3999999
namespace L3
open PySem PySem.Spec PyProof.Rows L2
namespace Rv
end Rv
section
variable {prog : Program} {w : World} {A : Around} {E : Value → Shared → Prop} {s : Shared}
end
noncomputable def wRev (t : WA) : WI := fun ρ Q => t ρ fun ds => match ds with
  | [.lst ds] => Q ds.reverse
  | [.tup ds] => Q ds.reverse
  | _ => False
section
variable {X : Cx} {tg : Expr}
end
section
variable {prog : Program} {w : World} {A : Around} {E : Value → Shared → Prop} {s : Shared}
theorem collect_rng {Q : List Value → Shared → Prop} {r : Addr} {a b c : Int} {t u v : Tok} {n : Nat} (hh : A.handled = none) (hr : IsRange s.heap r a b c t u v) (hsmall : Builtin.Range.small a b c = true) (hn : Builtin.Range.rangeSize a b c = n)
    (hlen : n ≤ 2 ^ 24) (hQ : ∀ h' tk acc, s.heap.objs.size ≤ h'.objs.size → (∀ b o, s.heap.get? b = some o → h'.get? b = some o) → ItemsOf (fun i v => ∃ t, v = .int (a + i * c) t) acc n → Q acc.toList { s with heap := h', toks := tk }) : wpAny (model prog w) A (collect (.ref r)) Q E s := by
  unfold collect
  apply wpAny_bind
  apply wpAny_runValue
  refine codeAny_builtin F.entry_proto_collect ?_
  rw [Around.under_plainId F.plain_proto_collect]
  wp_walk
  refine ⟨plainId_quiet F.plain_list_iadd _, codeAny_builtin F.entry_list_iadd ?_⟩
  rw [Around.under_plainId F.plain_list_iadd]
  refine wpAny_extend_range (R := wants _ _) (s := { s with heap := s.heap.push { cls := .type "list", data := .seq #[] } }) hh (Heap.get?_push_of_some _ hr) hsmall hn hlen s.heap.objs.size (.ref s.heap.objs.size) _ (Heap.get?_push_size _ rfl) fun h' tk acc' c' hk hS' hacc => ?_
  apply wpAny_bind
  apply wpAny_load hS'
  exact wpAny_pure (hQ h' tk acc' (Nat.le_of_lt (Heap.lt_size hS')) (fun b o e => hk b o (Nat.ne_of_lt (Heap.lt_size e)) (Heap.get?_push_of_some _ e)) hacc)
theorem new_tup_rng {r : Addr} {a b c : Int} {t u v : Tok} {n : Nat} (hsmall : Builtin.Range.small a b c = true) (hn : Builtin.Range.rangeSize a b c = n) (hlen : n ≤ 2 ^ 24) : Meets (Builtin.«tuple.__new__» ⟨[.type "tuple", .ref r], []⟩)
      (fun A R s => A.handled = none ∧ IsRange s.heap r a b c t u v ∧ ∀ (h' : Heap) (tk : Nat) (acc : Array Value), s.heap.objs.size ≤ h'.objs.size → (∀ b o, s.heap.get? b = some o → h'.get? b = some o) → ItemsOf (fun i v => ∃ t, v = .int (a + i * c) t) acc n →
        R (.ok (.ret (.ref h'.objs.size))) { s with heap := h'.push { cls := .type "tuple", data := .seq acc }, toks := tk }) :=
  .of_wp fun prog w A R s h => by
    obtain ⟨hh, hr, h⟩ := h
    have h1 := sub_tuple_self
    have h2 := init_tuple_lookup
    have h3 := madeHere_tuple
    wp_walk using wpAny_typeOf (T := "range") (v := .ref r) ⟨_, hr, rfl⟩, collect_rng (A := A.in1) hh hr hsmall hn hlen
    intro h' tk acc hsz hk hacc
    have fits : acc.size ≤ sizeLine := by rw [hacc.1, sizeLine_eq]; omega
    wp_walk
    simpa using h h' tk acc hsz hk hacc
theorem call_tup_rng {Q : Value → Shared → Prop} {r : Addr} {a b c : Int} {t u v : Tok} {n : Nat} (hh : A.handled = none) (hr : IsRange s.heap r a b c t u v) (hsmall : Builtin.Range.small a b c = true) (hn : Builtin.Range.rangeSize a b c = n) (hlen : n ≤ 2 ^ 24)
    (h : ∀ (h' : Heap) (tk : Nat) (acc : Array Value), s.heap.objs.size ≤ h'.objs.size → (∀ b o, s.heap.get? b = some o → h'.get? b = some o) → ItemsOf (fun i v => ∃ t, v = .int (a + i * c) t) acc n → Q (.ref h'.objs.size) { s with heap := h'.push { cls := .type "tuple", data := .seq acc }, toks := tk }) :
    wpAny (model prog w) A (call (.type "tuple") [.ref r]) Q E s :=
  callType_new F.called_tuple (by decide) (F.typeCall_tuple_1 _) (F.newCall_tuple_1 _) (fun obj => F.args_object_init_2 obj _) F.entry_tuple_new
    (new_tup_rng hsmall hn hlen) ⟨hh, hr, fun h' tk acc hsz hk hacc => ⟨⟨_, Heap.get?_push_size _ rfl, rfl⟩, h h' tk acc hsz hk hacc⟩⟩
end
section
variable {X : Cx}
theorem call_tup_rngR (hc : X.calm = true) : CallR X (.type "tuple") (fun xs H Q => ∃ p i j, xs = [.ref p] ∧ H p = some (.rng i j) ∧ -16777216 ≤ i ∧ i ≤ 16777216 ∧ -16777216 ≤ j ∧ j ≤ 16777216 ∧ j - i ≤ 16777216 ∧ ∀ l, H l = none → Q (.ref l) (upd H l (.tup ((rngI i (j - i).toNat).map V.int)))) := by
  intro pins s σ H xs us Q I r h
  obtain ⟨p, i, j, rfl, hp, h0, h1, h2, h3, h4, q⟩ := h
  obtain ⟨u, rfl, ru⟩ := vals1 r
  cases ru
  obtain ⟨t, u, v, e⟩ := I.hok p _ hp
  have hsz : Builtin.Range.rangeSize i j 1 = ((j - i).toNat : Int) := by rw [rangeSize_one]; split <;> omega
  refine call_tup_rng (a := i) (b := j) (c := 1) (n := (j - i).toNat) (I.ok.hd hc) e (small_one (by omega) (by omega) (by omega) (by omega)) hsz (by omega) fun h' tk acc' hle kp hit => ?_
  have hv : Vals ((rngI i (j - i).toNat).map V.int) acc'.toList := vals_rng hit
  have hfr : H h'.objs.size = none := I.hok.fresh hle
  refine ⟨.ref h'.objs.size, _, I.laid (t' := tk) (o := .tup ((rngI i (j - i).toNat).map V.int)) (fun b o e => Heap.get?_push_of_some _ (kp b o e)) hle ⟨?_, acc'.toList, hv, ⟨_, Heap.get?_push_size _ rfl, rfl, _, rfl⟩, NoD.new _ _⟩, rfl, q _ hfr⟩
  rw [List.length_map, rngI_length, sizeLine_eq]
  omega
theorem tupRange3 {a : Expr} {t : WA} {p pos p2 pos2 : Pos} (hc : X.calm = true) (hm : X.mg "tuple" = none) (hmr : X.mg "range" = none) (ha : PA3 X [a] t) (hg : Gl X "tuple" := by rfl) (hgr : Gl X "range" := by rfl) (hs : starEach [a] X.env = [(false, eval a X.env)] := by rfl)
    (he : starEach [.Call (.Name "range" p2) [a] [] pos2] X.env = (false, eval (.Call (.Name "range" p2) [a] [] pos2) X.env) :: starEach [] X.env := by rfl) :
    PE3 X (.Call (.Name "tuple" p) [.Call (.Name "range" p2) [a] [] pos2] [] pos) (fun ρ Q => (t ρ fun ds => match ds with | [.int j] => (-16777216 ≤ j ∧ j ≤ 16777216) ∧ Q (.tup ((rngI 0 j.toNat).map D.int)) | _ => False)) :=
  imp (pe_callTy (call_tup_rngR hc) hg hm PyProof.Rows.boot_tuple (pa_cons (pe_range1 hgr hmr ha hs) pa_nil he) (by decide) (by decide) he (by rfl)) fun σ H Q hq98 => by
    obtain ⟨S, ρ, Q3, fc, sl, ht, k⟩ := hq98
    refine ⟨S, ρ, _, fc, sl, ht, fun vs H1 ds s1 d1 q1 => ?_⟩
    split at q1
    · rename_i j
      obtain ⟨v, r, rfl, h1, h2⟩ := d1.uncons
      simp only [Dns] at h2
      subst h2
      simp only [Dn] at h1
      subst h1
      refine ⟨j, rfl, fun p hp => ⟨p, 0, j, rfl, upd_same, by omega, by omega, q1.1.1, q1.1.2, by have := q1.1.2; omega, fun l hl => ?_⟩⟩
      have hl1 : H1 l = none := (same_upd hp).free hl
      rw [Int.sub_zero]
      refine k _ _ _ ((s1.trans (same_upd hp)).trans (same_upd hl)) ?_ q1.2
      simp only [Dn]
      exact ⟨l, _, rfl, upd_same, Dns.ints.mpr rfl⟩
    · exact q1.elim
end
end L3
namespace L4
open PySem PySem.Spec PyProof.Rows L2 L3
section
variable {X : Cx} {tg : Expr}
theorem tupleRange4 {a : Expr} {fa : EF} {p pos p2 pos2 : Pos} (hc : X.calm = true) (hm : X.mg "tuple" = none) (hmr : X.mg "range" = none) (ha : PE4 X a fa) (hg : Gl X "tuple" := by rfl) (hgr : Gl X "range" := by rfl) (hs : starEach [a] X.env = [(false, eval a X.env)] := by rfl)
    (he : starEach [.Call (.Name "range" p2) [a] [] pos2] X.env = (false, eval (.Call (.Name "range" p2) [a] [] pos2) X.env) :: starEach [] X.env := by rfl) :
    PE4 X (.Call (.Name "tuple" p) [.Call (.Name "range" p2) [a] [] pos2] [] pos) (eTupR (aCons fa aNil)) := cE (tupRange3 hc hm hmr (cons4 ha nil4 hs) hg hgr hs he) fun ρ Q hq99 => by
  obtain ⟨d, e, q⟩ := hq99
  obtain ⟨ds, ed, e⟩ := bnd e
  refine ⟨ds, ed, ?_⟩
  obtain ⟨a, ha', rfl⟩ := one_of ed
  split at e
  · rename_i j hj
    cases hj
    by_cases h : j.natAbs ≤ 16777216
    · rw [if_pos h] at e; cases e; exact ⟨⟨by omega, by omega⟩, q⟩
    · rw [if_neg h] at e; cases e
  · rename_i hj; cases hj
  · cases e
end
end L4
end
section
set_option Elab.async false
set_option linter.all false
set_option maxRecDepth 100000
set_option maxHeartbeats 3999999
namespace L4
open PySem PySem.Spec PyProof.Rows L2 L3 PySem.W
section
variable {lt : Nat → Nat → Bool}
end
end L4
end
section
set_option Elab.async false
set_option linter.all false
set_option maxRecDepth 100000
namespace L4
open PySem L3
end L4
end
section
set_option Elab.async false
set_option linter.all false
namespace L4
open PySem L3
end L4
end
section
set_option Elab.async false
set_option linter.all false
namespace L4
open PySem L3
end L4
end
section
set_option Elab.async false
set_option linter.all false
set_option maxRecDepth 100000
set_option maxHeartbeats 3999999
namespace L4
open PySem PySem.Spec PyProof.Rows L2 L3 PySem.W Att
section
variable {prog : Program} {w : World} {A : Around} {s : Shared} {Q : Bool → Shared → Prop}
end
section
variable {n : Nat}
end
section
variable {X : Cx}
end
end L4
end
section
set_option Elab.async false
set_option linter.all false
set_option maxRecDepth 100000
set_option maxHeartbeats 3999999
namespace L4
open PySem PySem.Spec PyProof.Rows L2 L3
section
variable {X : Cx}
end
end L4
end
section
set_option Elab.async false
set_option linter.all false
set_option maxRecDepth 100000
set_option maxHeartbeats 3999999
namespace L4
open PySem PySem.Spec PyProof.Rows L2 L3 PySem.SeqAt
section
variable {X : Cx} {pins : List (Addr × Obj)} {σ : L2.St} {H : Hp} {s : Shared} {S : Addr → Prop}
open Classical in
end
end L4
end
section
set_option Elab.async false
set_option linter.all false
set_option maxRecDepth 100000
set_option maxHeartbeats 3999999
namespace L4
open PySem PySem.Spec PyProof.Rows L2 L3
section
variable {X : Cx}
theorem frzS4 (i : Nat) {st : Stmt} {f : SF} (h : PS4 X st f) : PS4 X st (sFrz i f) :=
  impS h fun B σ H hq100 => by obtain ⟨H₀, S, w, ρ, G, E, hl, st, ht, ok⟩ := hq100; exact ⟨H₀, S, w, freeze ρ i, G, E, hl, st.frozen, ht, ok⟩
end
end L4
end
section
set_option Elab.async false
set_option linter.all false
set_option maxRecDepth 100000
set_option maxHeartbeats 3999999
namespace L5
open PySem PySem.Spec PyProof.Rows L2 L3 L4
section
variable {X : Cx} {pins : List (Addr × Obj)} {σ : L2.St} {H : Hp} {s : Shared} {h' : Heap} {e : Addr} {cls a0 : Value} {P : List Addr}
end
section
variable {P : Program} {w : World} {K : PySem.W.Frag} {mg : Str → Option Value} {base : Heap} {N : List Str} {qual : Str} {scope : Scope} {f : Addr} {cd : Value} {A : Around} {outer : List Env} {s0 : Shared} {H0 : Hp} {E : XK}
end
section
variable {X : Cx} {k : Nat} {f : Addr} {fd : FuncData} {ps : List Str} {R : FnF} {x : Str} {p pos : Pos} {e : Expr} {es : List Expr} {t : AF}
end
end L5
end
section
set_option Elab.async false
set_option linter.all false
set_option maxRecDepth 100000
set_option maxHeartbeats 3999999
namespace L5
open PySem PySem.Spec PyProof.Rows L2 L3 L4
section
variable {X : Cx}
end
end L5
end
section
set_option Elab.async false
set_option linter.all false
set_option maxRecDepth 100000
set_option maxHeartbeats 3999999
namespace L5
open PySem PySem.Spec PyProof.Rows L2 L3 L4 PySem.W Builtin.ObjectAttr Builtin.Getset_descriptor
structure ExcQ (K : PySem.W.Frag) (C : Addr) : Prop where
  hc : isClsIn K C = true
  hm : mroIn K C (.type "object") = some true
  hs : subIn K (.ref C) (.type "BaseException") = some true
  hga : findIn K (.ref C) "__getattribute__" = some (some (.builtin "BaseException.__getattribute__"))
  hgg : findIn K (.ref C) "__getattr__" = some none
  ha : findIn K (.ref C) "__class__" = some (some (.builtin "object.__class__"))
  hn : specialIn K (.builtin "object.__class__") "__get__" = some (some (.builtin "getset_descriptor.__get__"))
  ht : takesIn K (.builtin "object.__class__") = some true
section
variable {prog : Program} {w : World} {A : Around} {E : Value → Shared → Prop} {s : Shared} {K : PySem.W.Frag} {a C : Addr}
end
end L5
end
section
set_option Elab.async false
set_option linter.all false
set_option maxRecDepth 100000
set_option maxHeartbeats 3999999
namespace L5
open PySem PySem.Spec PyProof.Rows L2 L3 L4
section
variable {X : Cx}
end
end L5
end
section
set_option Elab.async false
set_option linter.all false
set_option maxRecDepth 100000
set_option maxHeartbeats 3999999
namespace L5
open PySem PySem.Spec PyProof.Rows L2 L3 L4
section
variable {X : Cx} {pins : List (Addr × Obj)} {σ : L2.St} {H : Hp} {s : Shared}
end
section
variable {X : Cx}
end
end L5
end
section
set_option Elab.async false
set_option linter.all false
set_option maxRecDepth 100000
set_option maxHeartbeats 3999999
namespace L5
open PySem PySem.Spec PyProof.Rows L2 L3 L4
section
variable {X : Cx}
def CPB (i j : Int) : Prop := 0 ≤ j ∧ j ≤ 100 ∧ i.natAbs < 2 ^ 1000
theorem op_powG : OpR X (binaryOp .Pow) (rI CPB fun i j => .int (i ^ j.toNat)) := opI fun _ _ _ _ _ _ _ hc q => by
  obtain ⟨h0, h1, hb⟩ := hc
  refine PyProof.Rows.pow_int h0 (Int.le_trans (Int.mul_le_mul_of_nonneg_right (?_ : _ ≤ (1000 : Int)) h0) (by omega)) q
  have := intBits_le hb
  omega
theorem powG4 {a b : Expr} {fa fb : EF} {pos : Pos} (ha : PE4 X a fa) (hb : PE4 X b fb) : PE4 X (.BinOp a .Pow b pos) (eBin powGM fa fb) := cE (op3 op_powG o3_int ha hb) (bin_w (tells_intC fun i j h => by
  simp only [Bool.and_eq_true, decide_eq_true_eq] at h
  exact ⟨h.1.1, h.1.2, h.2⟩))
end
end L5
end
section
set_option Elab.async false
set_option linter.all false
set_option maxRecDepth 100000
set_option maxHeartbeats 3999999
namespace L5
open PySem PySem.Spec PyProof.Rows L2 L3 L4 PySem.W
variable {K : PySem.W.Frag} {C D : Addr}
structure NotSub (K : PySem.W.Frag) (C D : Addr) : Prop where
  ne : (Value.ref C == Value.ref D) = false
  c : isClsIn K D = true
  t : typeIn K (.ref D) = some (.type "type")
  s : subIn K (.ref C) (.ref D) = some false
end L5
end
section
set_option Elab.async false
set_option linter.all false
set_option maxRecDepth 100000
set_option maxHeartbeats 3999999
namespace L5
open PySem PySem.Spec PyProof.Rows L2 L3 L4
section
variable {X : Cx}
end
end L5
end
section
set_option Elab.async false
set_option linter.all false
set_option maxRecDepth 100000
set_option maxHeartbeats 3999999
namespace L5
open PySem PySem.Spec PyProof.Rows L2 L3 L4 Att
section
variable {X : Cx} {pins : List (Addr × Obj)} {σ : L2.St} {H : Hp} {s : Shared}
end
end L5
end
section
set_option Elab.async false
set_option linter.all false
set_option maxRecDepth 100000
set_option maxHeartbeats 3999999
namespace L5
open PySem PySem.Spec PyProof.Rows L2 L3 L4
section
variable {X : Cx}
theorem rev_take (its : List Value) : ∀ m : Nat, m ≤ its.length → (List.range m).filterMap (fun k => its[its.length - 1 - k]?) = its.reverse.take m
  | 0, _ => rfl
  | m + 1, hm => by
    have hg : its[its.length - 1 - m]? = some (its[its.length - 1 - m]'(by omega)) := List.getElem?_eq_getElem _
    have hr : its.reverse[m]? = some (its[its.length - 1 - m]'(by omega)) := by rw [List.getElem?_reverse (by omega)]; exact hg
    rw [List.range_succ, List.filterMap_append, rev_take its m (by omega), List.take_succ, hr, List.filterMap_cons, hg]
    rfl
theorem pick_rev (its : List Value) : slicePick its.toArray none none (some (-1)) = its.reverse.toArray := by
  have c : ∀ n : Nat, ((if (n : Int) - 1 > -1 then ((n : Int) - 1 - -1 - -1 - 1) / - -1 else 0 : Int)).toNat = n := fun n => by
    rw [show (- -1 : Int) = 1 from rfl, Int.ediv_one]
    split <;> omega
  have b : sliceRange (((its.toArray.size : Nat) : Int) - 1) (-1) (-1) = (List.range its.length).map fun k => its.length - 1 - k := by
    unfold sliceRange
    simp only [show ¬ ((-1 : Int) > 0) by decide, if_false, c, List.size_toArray]
    refine List.map_congr_left fun k hk => ?_
    have := List.mem_range.mp hk
    omega
  unfold slicePick
  show (List.filterMap (fun x => its.toArray[x]?) (sliceRange (((its.toArray.size : Nat) : Int) - 1) (-1) (-1))).toArray = _
  rw [b, List.filterMap_map]
  congr 1
  have := rev_take its its.length (Nat.le_refl _)
  rw [List.take_of_length_le (by simp)] at this
  rw [← this]
  congr 1
  funext k
  simp
theorem dns_rev {K : PySem.W.Frag} {S : Addr → Prop} {H : Hp} : ∀ {ds : List D} {xs : List V}, Dns K S H ds xs → Dns K S H ds.reverse xs.reverse
  | [], xs, h => by simp only [Dns] at h; subst h; exact Dns.nil
  | d :: ds, xs, h => by
    obtain ⟨v, r, rfl, h1, h2⟩ := h.uncons
    rw [List.reverse_cons (a := d), List.reverse_cons (a := v)]
    exact (dns_rev h2).append (Dns.one h1)
theorem vals_rev : ∀ {xs : List V} {us : List Value}, Vals xs us → Vals xs.reverse us.reverse
  | _, _, .nil => .nil
  | _, _, .cons p q => by
    simp only [List.reverse_cons]
    exact (vals_rev q).append (.cons p .nil)
def rInsert : V → List V → Hp → VK → Prop := fun x vs H Q => ∃ l xs k y, x = .ref l ∧ vs = [.int k, y] ∧ H l = some (.lst xs) ∧ 0 ≤ k ∧ k ≤ (xs.length : Int) ∧ xs.length < sizeLine ∧ Q .non (upd H l (.lst (xs.take k.toNat ++ y :: xs.drop k.toNat)))
theorem mt_insert : MtR X "list.insert" rInsert := by
  intro pins s σ H x vs v us Q I rx rv h
  obtain ⟨l, xs, k, y, rfl, rfl, hH, k0, k1, hz, q⟩ := h
  cases rx
  obtain ⟨u, u2, rfl, ru, ru2⟩ := vals2 rv
  obtain ⟨t, rfl⟩ := ru
  obtain ⟨z, its, n, r, hl, e⟩ := I.lstM hH
  have sz : sizeLine < 2 ^ 62 := by decide
  refine call_meets PySem.F.slot_list_insert ⟨_, e, rfl⟩ PySem.F.entry_list_insert (PySem.F.args_list_insert_3 _ _ _) (PySem.AutoListH.list_insert_list_int_val_1 l its.toArray n k t u2 (by rw [fitsIndex_both (by omega) (by omega)]; decide) (by rw [List.size_toArray]; omega)) ⟨e, ?_⟩
  refine ⟨.non, _, I.lset (its' := its.take k.toNat ++ u2 :: its.drop k.toNat) hH e ?_ ((r.take k.toNat).append (.cons ru2 (r.drop k.toNat))) ?_, rfl, q⟩
  · show (let kk := if k < 0 then (k + ((its.toArray.size : Nat) : Int)).toNat else min k.toNat its.toArray.size; (its.toArray.extract 0 kk).push u2 ++ its.toArray.extract kk) = _
    rw [if_neg (by omega), show min k.toNat its.toArray.size = k.toNat by rw [List.size_toArray]; omega]
    simp
    exact List.take_of_length_le (by rw [List.length_drop]; exact Nat.le_refl _)
  · rw [List.length_append, List.length_cons, List.length_take, List.length_drop]
    omega
def rNeL : R2 := fun x y H Q => ∃ (a b : Addr) (ns ms : List Int), x = .ref a ∧ y = .ref b ∧ H a = some (.lst (ns.map V.int)) ∧ H b = some (.lst (ms.map V.int)) ∧ Q (.bl (!decide (ns = ms))) H
theorem ints_get {ns : List Int} {us : List Value} (h : Vals (ns.map V.int) us) {j : Nat} (h1 : j < us.length) (h2 : j < ns.length) : ∃ t, us[j] = .int ns[j] t := by
  obtain ⟨u, hu, ru⟩ := h.get (show (ns.map V.int)[j]? = some (.int ns[j]) by rw [List.getElem?_map, List.getElem?_eq_getElem h2]; rfl)
  obtain ⟨t, e⟩ := ru
  exact ⟨t, by rw [← e]; exact (List.getElem?_eq_some_iff.mp hu).2⟩
theorem op_neL (hu : X.A.units + 1 < cLine) : OpR X (compareOp .NotEq) rNeL := by
  intro pins s σ H x y v u Q I rx ry h
  obtain ⟨a, b, ns, ms, rfl, rfl, ha, hb, q⟩ := h
  cases rx
  cases ry
  obtain ⟨z, its, n, r, hl, e⟩ := I.lstM ha
  obtain ⟨z2, its2, n2, r2, hl2, e2⟩ := I.lstM hb
  rw [List.length_map] at hl hl2
  have L1 : s.heap.IsList a its.toArray := ⟨_, e, rfl, n, rfl⟩
  have L2' : s.heap.IsList b its2.toArray := ⟨_, e2, rfl, n2, rfl⟩
  by_cases hs : ns.length = ms.length
  · refine PySem.SeqAt.RcNeAt.lists (e := fun j => decide (ns[j]? = ms[j]?)) L1 L2' (by simp; omega) (by omega) (fun j j1 j2 => ?_) X.prog X.w _ _ ⟨_, H, I, ?_, q⟩
    · have j1 : j < its.length := by simpa using j1
      have j2 : j < its2.length := by simpa using j2
      obtain ⟨t, et⟩ := ints_get r j1 (by omega)
      obtain ⟨t2, et2⟩ := ints_get r2 j2 (by omega)
      have key := PySem.SeqAt.EqAt.int_int (A := X.A.in1) (s := s) (ns[j]'(by omega)) t (ms[j]'(by omega)) t2
      have ee : (ns[j]'(by omega) == ms[j]'(by omega)) = decide (ns[j]? = ms[j]?) := by
        rw [List.getElem?_eq_getElem (by omega), List.getElem?_eq_getElem (by omega)]
        simp [BEq.beq]
      rw [← ee]
      simpa [et, et2] using key
    · show L2.RelV (.bl _) (.bool _)
      simp only [L2.RelV]
      congr 2
      rw [Bool.eq_iff_iff]
      simp only [List.all_eq_true, List.mem_range, decide_eq_true_eq, List.size_toArray]
      constructor
      · intro hj
        apply List.ext_getElem?
        intro j
        by_cases hjl : j < its.length
        · exact hj j hjl
        · rw [List.getElem?_eq_none (by omega), List.getElem?_eq_none (by omega)]
      · intro hj j _
        rw [hj]
  · refine PySem.SeqAt.RcNeAt.lists_lengths L1 L2' (by simp; omega) (by omega) X.prog X.w _ _ ⟨_, H, I, ?_, q⟩
    show L2.RelV (.bl _) (.bool _)
    simp only [L2.RelV]
    rw [decide_eq_false (fun z => hs (by rw [z]))]
    rfl
def neLF : F2 := fun x y Q => ∃ b, eqLB x y = some b ∧ Q (.bl (!b))
theorem dns_ints {K : PySem.W.Frag} {S : Addr → Prop} {H : Hp} : ∀ {ns : List Int} {xs : List V}, Dns K S H (ns.map D.int) xs → xs = ns.map V.int
  | [], xs, h => by rw [List.map_nil] at h; simp only [Dns] at h; exact h
  | n :: ns, xs, h => by
    rw [List.map_cons] at h
    obtain ⟨v, r, rfl, h1, h2⟩ := h.uncons
    simp only [Dn] at h1
    rw [h1, dns_ints h2]
    rfl
theorem o3_neL {K : PySem.W.Frag} : O3 K rNeL neLF := by
  intro S H x y dx dy Q3 Q fc hx hy hf k
  obtain ⟨b, e, q⟩ := hf
  cases dx <;> first | (cases e; done) | skip
  cases dy <;> first | (cases e; done) | skip
  obtain ⟨ns, en, e⟩ := bnd e
  obtain ⟨ms, em, rfl⟩ := mpd e
  rw [ints_of en] at hx
  rw [ints_of em] at hy
  simp only [Dn] at hx hy
  obtain ⟨a, xs, rfl, ha, sa, da⟩ := hx
  obtain ⟨c, ys, rfl, hc, sc, dc⟩ := hy
  rw [dns_ints da] at ha
  rw [dns_ints dc] at hc
  exact ⟨a, c, ns, ms, rfl, rfl, ha, hc, k _ H _ (Same.refl H) (by simp only [Dn]) q⟩
theorem tells_neL : Tells neLF neLM := fun x y d Q e q => by
  unfold neLM at e
  obtain ⟨b, e1, rfl⟩ := mpd e
  exact ⟨b, e1, q⟩
theorem neLT4 {a b : Expr} {fa fb : EF} {pos : Pos} (hu : X.A.units + 9 < cLine) (ha : PE4 X a fa) (hb : PE4 X b fb) : PT4 X (.Compare a [.NotEq] [b] pos) (tV (eBin neLM fa fb)) := cT (cmpT3 (op_neL (by omega)) o3_neL ha hb (nomark _)) (bin_t tells_neL fun x y d e => by unfold neLM at e; obtain ⟨b, _, rfl⟩ := mpd e; exact ⟨_, rfl⟩)
end
end L5
end
section
set_option Elab.async false
set_option linter.all false
set_option maxRecDepth 100000
set_option maxHeartbeats 3999999
namespace L5
open PySem PySem.Spec PyProof.Rows L2 L3 L4
section
variable {X : Cx}
section
variable {ls fs : List Str} {fr : List Nat} {sc : Scope} {tg iter elt : Expr} {ifs : List Expr} {pos : Pos} {i : Nat} {x : Str} {spos pos' : Pos}
variable {it : AF} {g : GEF} {t : TF} {e : EF}
end
end
end L5
end
section
set_option Elab.async false
set_option linter.all false
set_option maxRecDepth 100000
set_option maxHeartbeats 3999999
namespace L5
open PySem PySem.Spec PyProof.Rows L2 L3 L4
section
variable {X : Cx}
end
end L5
end
section
set_option Elab.async false
set_option linter.all false
set_option maxRecDepth 100000
set_option maxHeartbeats 3999999
namespace L5
open PySem PySem.Spec PyProof.Rows L2 L3 L4
end L5
end
section
set_option Elab.async false
set_option linter.all false
set_option maxRecDepth 100000
set_option maxHeartbeats 3999999
namespace L6
open PySem PySem.Spec PyProof.Rows
end L6
end
section
set_option Elab.async false
set_option linter.all false
set_option maxRecDepth 100000
set_option maxHeartbeats 3999999
namespace L6
open PySem PySem.Spec PyProof.Rows
section
variable {prog : Program} {w : World} {A : Around} {E : Value → Shared → Prop} {s : Shared}
theorem stored {a : Addr} {o : Obj} {es es' : Array (Int × Value)} {ep : Nat} {t t' : SetTable} (ho : s.heap.get? a = some o) (hd : o.data = .set es ep t) :
    (s.heap.update a (Obj.putSet es' t')).get? a = some { o with data := .set es' (ep + 1) t' } := by
  have q := Heap.get?_update_self (Obj.putSet es' t') ho (by rw [putSet_of es' t' hd]; rfl)
  rwa [putSet_of es' t' hd] at q
end
end L6
end
section
set_option Elab.async false
set_option linter.all false
set_option maxRecDepth 100000
set_option maxHeartbeats 3999999
namespace L6
open PySem PySem.Spec PyProof.Rows
section
variable {prog : Program} {w : World} {A : Around} {E : Value → Shared → Prop} {s : Shared}
end
end L6
end
section
set_option Elab.async false
set_option linter.all false
set_option maxRecDepth 100000
set_option maxHeartbeats 3999999
namespace L6
open PySem PySem.Spec PyProof.Rows
namespace Si
end Si
section
variable {prog : Program} {w : World} {A : Around} {E : Value → Shared → Prop} {s : Shared}
end
end L6
end
section
set_option Elab.async false
set_option linter.all false
set_option maxRecDepth 100000
set_option maxHeartbeats 3999999
namespace L6
open PySem PySem.Spec PyProof.Rows
section
variable {prog : Program} {w : World} {A : Around} {E : Value → Shared → Prop} {s : Shared}
end
end L6
end
section
set_option Elab.async false
set_option linter.all false
set_option maxRecDepth 100000
set_option maxHeartbeats 3999999
namespace L6
open PySem PySem.Spec PyProof.Rows
section
variable {prog : Program} {w : World} {A : Around} {E : Value → Shared → Prop} {s : Shared}
end
end L6
end
section
set_option Elab.async false
set_option linter.all false
set_option maxRecDepth 100000
set_option maxHeartbeats 3999999
namespace L6
open PySem PySem.Spec PyProof.Rows
section
variable {prog : Program} {w : World} {A : Around} {E : Value → Shared → Prop} {s : Shared}
end
end L6
end
section
set_option Elab.async false
set_option linter.all false
set_option maxRecDepth 100000
set_option maxHeartbeats 3999999
namespace L6
open PySem PySem.Spec PyProof.Rows L2 L3 L4
section
variable {X : Cx}
end
end L6
end
section
set_option Elab.async false
set_option linter.all false
set_option maxRecDepth 100000
set_option maxHeartbeats 3999999
namespace L6
open PySem PySem.Spec PyProof.Rows L2 L3 L4
section
variable {X : Cx}
end
end L6
end
section
set_option Elab.async false
set_option linter.all false
set_option maxRecDepth 100000
set_option maxHeartbeats 3999999
namespace L6
open PySem PySem.Spec PyProof.Rows L2 L3 L4
theorem noFill_tup : fillsNumberSlot (.type "tuple") "mul" = pure false :=
  PySem.fillsNumberSlot_seq (id := "tuple.__mul__") (r := some (.builtin "tuple.__rmul__")) PySem.F.slot_tuple_mul.lookup (by decide +kernel) PySem.F.slot_tuple_rmul.lookup (by decide +kernel)
theorem repeat_tup : seqRepeat? (.type "tuple") = pure (some (.builtin "tuple.__mul__")) := by
  unfold seqRepeat?
  rw [PySem.seqSlot_of (T := "tuple") (name := "__mul__") (id := "tuple.__mul__") PySem.F.slot_tuple_mul.lookup (by decide +kernel), PySem.seqSlot_of (T := "tuple") (name := "__rmul__") (id := "tuple.__rmul__") PySem.F.slot_tuple_rmul.lookup (by decide +kernel)]
  rfl
section
variable {prog : Program} {w : World} {A : Around} {E : Value → Shared → Prop} {s : Shared}
theorem rmul_tup (a : Int) (tk : Tok) (t : Addr) (items : Array Value) : Meets (Builtin.«int.__rmul__» ⟨[.int a tk, .ref t], []⟩) (fun _ R s => IsTup s.heap t items ∧ R (.ok (.ret Value.notImplemented)) s) := by
  refine .of_wp fun p0 w0 A0 R0 s h => ?_
  obtain ⟨ht, h⟩ := h
  have tt := ht.typeIs
  obtain ⟨ot, hot, hct, nt, hdt⟩ := id ht
  wp_walk
  rw [hdt]
  refine wpAny_pure ?_
  exact wpAny_bind (wpAny_rule (wpAny_pure ⟨_, rfl, h⟩))
theorem mul_tup (x : Int) (tk : Tok) (t : Addr) (items : Array Value) (hx : -(2 ^ 63 : Int) ≤ x ∧ x < 2 ^ 63) (hz : items.size * x.toNat ≤ 2 ^ 24) : Meets (Builtin.«tuple.__mul__» ⟨[.ref t, .int x tk], []⟩) (fun _ R s => IsTup s.heap t items ∧
    (items.isEmpty = true ∨ x = 1 → R (.ok (.ret (.ref t))) s) ∧ (items.isEmpty = false → x ≠ 1 → R (.ok (.ret (.ref s.heap.objs.size))) { s with heap := s.heap.push { cls := .type "tuple", data := .seq ((List.replicate x.toNat items).foldl (· ++ ·) #[]) } })) := by
  refine .of_wp fun p0 w0 A0 R0 s h => ?_
  obtain ⟨ht, h1, h2⟩ := h
  have tt := ht.typeIs
  obtain ⟨ot, hot, hct, nt, hdt⟩ := id ht
  have e1 : (decide (x < -2 ^ 63) || decide (x ≥ 2 ^ 63)) = false := by
    rw [decide_eq_false (by omega), decide_eq_false (by omega)]
    rfl
  wp_walk
  rw [if_neg (by rw [e1]; decide)]
  wp_walk
  rw [hdt]
  apply wpAny_pure; apply wpAny_pure
  by_cases hs : (items.isEmpty || x == 1) = true
  · rw [if_pos hs]
    refine wpAny_bind (wpAny_bind (wpAny_typeOf tt (wpAny_pure ?_)))
    rw [if_pos (by decide)]
    exact wpAny_bind (wpAny_rule (wpAny_pure ⟨_, rfl, h1 (by simpa using hs)⟩))
  · rw [if_neg hs]
    have hs' : items.isEmpty = false ∧ x ≠ 1 := by simpa using hs
    have h2 := h2 hs'.1 hs'.2
    dsimp only
    by_cases h0 : x ≤ 0
    · rw [if_pos (by rw [decide_eq_true h0]; rfl)]
      have e0 : x.toNat = 0 := by omega
      rw [e0] at h2
      exact wpAny_bind (wpAny_newObj_type (wpAny_pure ⟨_, rfl, h2⟩) (Nat.zero_le _))
    · have zz : (items.size : Int) * x ≤ 2 ^ 24 := by
        have e2 : x = (x.toNat : Int) := by omega
        rw [e2]
        exact_mod_cast hz
      rw [if_neg (by rw [decide_eq_false h0, hs'.1]; decide), if_neg (by omega), if_neg (by unfold Builtin.Tuple.tupleTooMany; rw [sizeLine_eq]; simp; omega)]
      have fl : ∀ (n : Nat) (acc : Array Value), ((List.replicate n items).foldl (· ++ ·) acc).size = acc.size + n * items.size := by
        intro n
        induction n with
        | zero => intro acc; simp
        | succ n ih => intro acc; rw [List.replicate_succ, List.foldl_cons, ih, Array.size_append, Nat.succ_mul]; omega
      refine wpAny_bind (wpAny_newObj_type (wpAny_pure ⟨_, rfl, h2⟩) ?_)
      show ((List.replicate x.toNat items).foldl (· ++ ·) #[]).size ≤ sizeLine
      rw [fl, sizeLine_eq, Nat.mul_comm]
      simpa using hz
theorem op_mulT {t : Addr} {items : Array Value} {x : Int} {u : Tok} {Q : Value → Shared → Prop} (ht : IsTup s.heap t items) (hx : -(2 ^ 63 : Int) ≤ x ∧ x < 2 ^ 63) (hz : items.size * x.toNat ≤ 2 ^ 24) (h1 : items.isEmpty = true ∨ x = 1 → Q (.ref t) s)
    (h2 : items.isEmpty = false → x ≠ 1 → Q (.ref s.heap.objs.size) { s with heap := s.heap.push { cls := .type "tuple", data := .seq ((List.replicate x.toNat items).foldl (· ++ ·) #[]) } }) : wpAny (model prog w) A (binaryOp .Mult (.ref t) (.int x u)) Q E s :=
  wpAny_binaryOp_repeat_ref (T := "tuple") (U := "int") (by decide) ht.typeIs (fun s' => typeIs_int s' x u) noFill_tup PySem.F.fills_int_mul PySem.F.slot_int_rmul repeat_tup PySem.F.slot_int_index.lookup
    (call_meets PySem.F.slot_int_rmul (typeIs_int s x u) PySem.F.entry_int_rmul (PySem.F.args_int_rmul_2 _ _) (rmul_tup x u t items) ⟨ht, rfl, ht.typeIs, call_meets PySem.F.slot_tuple_mul ht.typeIs PySem.F.entry_tuple_mul (PySem.F.args_tuple_mul_2 _ _) (mul_tup x u t items hx hz) ⟨ht, h1, h2⟩⟩)
end
section
variable {X : Cx}
noncomputable def rRepT (K : PySem.W.Frag) : R2 := fun x y H Q => ∃ a n xs, x = .ref a ∧ y = .int n ∧ SqT K H a xs ∧ (-(2 ^ 63) ≤ n ∧ n < 2 ^ 63) ∧ xs.length * n.toNat ≤ sizeLine ∧ (xs = [] ∨ n = 1 → Q (.ref a) H) ∧ (xs ≠ [] → n ≠ 1 → ∀ p, H p = none → Q (.ref p) (upd H p (.tup (List.replicate n.toNat xs).flatten)))
theorem fold_flat (items : List Value) : ∀ (n : Nat) (acc : Array Value), ((List.replicate n items.toArray).foldl (· ++ ·) acc).toList = acc.toList ++ (List.replicate n items).flatten
  | 0, acc => by simp
  | n + 1, acc => by
    rw [List.replicate_succ, List.foldl_cons, fold_flat items n, List.replicate_succ, List.flatten_cons]
    simp
theorem op_repT : OpR X (binaryOp .Mult) (rRepT X.K) := by
  intro pins s σ H x y v u Q I rx ry h
  obtain ⟨a, n, xs, rfl, rfl, ha, hn, hz, q1, q2⟩ := h
  cases rx
  obtain ⟨tk, rfl⟩ := ry
  obtain ⟨its, rv, pl, _⟩ := I.tuple ha
  have hl := rv.length
  have em : its.toArray.isEmpty = true ↔ xs = [] := by
    rw [← List.length_eq_zero_iff, hl]
    simp
  refine op_mulT (items := its.toArray) pl hn (by simpa [← hl, sizeLine_eq] using hz) (fun z => ?_) fun z1 z2 => ?_
  · exact ⟨.ref a, H, I, rfl, q1 (z.imp em.1 id)⟩
  · have ne : xs ≠ [] := fun z => by rw [em.2 z] at z1; cases z1
    refine ⟨.ref s.heap.objs.size, _, I.laid (t' := s.toks) (o := .tup (List.replicate n.toNat xs).flatten) (fun b o e => Heap.get?_push_of_some _ e) (Nat.le_refl _) ⟨?_, (List.replicate n.toNat its).flatten, rv.rep _, ⟨_, Heap.get?_push_size _ rfl, rfl, 0, ?_⟩, NoD.new _ _⟩, rfl, q2 ne z2 _ (I.hok.fresh (Nat.le_refl _))⟩
    · have : (List.replicate n.toNat xs).flatten.length = xs.length * n.toNat := by simp [Nat.mul_comm]
      rw [this]
      exact hz
    · show Data.seq _ _ = Data.seq _ _
      congr 1
      apply Array.toList_inj.mp
      rw [fold_flat]
      simp
theorem dns_repT {K : PySem.W.Frag} {S : Addr → Prop} {H : Hp} {ds : List D} {xs : List V} (h : Dns K S H ds xs) : ∀ n : Nat, Dns K S H (List.replicate n ds).flatten (List.replicate n xs).flatten
  | 0 => Dns.nil
  | n + 1 => by
    rw [List.replicate_succ, List.replicate_succ, List.flatten_cons, List.flatten_cons]
    exact h.append (dns_repT h n)
theorem repTM_of {a b d : D} (h : repTM a b = some d) : ∃ ds n, a = .tup ds ∧ b = .int n ∧ (ds.length * n.toNat ≤ szL ∧ n.natAbs < 9223372036854775808) ∧ d = .tup (List.replicate n.toNat ds).flatten := by
  unfold repTM at h
  split at h
  · split at h
    · rename_i z
      cases h
      exact ⟨_, _, rfl, rfl, z, rfl⟩
    · cases h
  · cases h
theorem repT4 {a b : Expr} {fa fb : EF} {pos : Pos} (ha : PE4 X a fa) (hb : PE4 X b fb) : PE4 X (.BinOp a .Mult b pos) (eBin repTM fa fb) := imp (pe_op op_repT ha hb) fun σ H Q hq101 => by
  obtain ⟨S, ρ, Q3, fc, sl, ⟨d, ed, q3⟩, k⟩ := hq101
  obtain ⟨dx, ex, ed⟩ := bnd ed
  obtain ⟨dy, ey, ed⟩ := bnd ed
  obtain ⟨ds, n, rfl, rfl, hz, rfl⟩ := repTM_of ed
  refine ⟨S, ρ, fun z => z = .tup ds, fc, sl, ⟨_, ex, rfl⟩, fun v H1 d1 s1 dn1 e1 => ?_⟩
  subst e1
  refine ⟨S, ρ, fun z => z = .int n, fc_same fc s1, Sl.fits (.same s1) sl, ⟨_, ey, rfl⟩, fun v2 H2 d2 s2 dn2 e2 => ?_⟩
  subst e2
  simp only [Dn] at dn2
  subst dn2
  have dn3 := Dn.fits (.same s2) _ _ dn1
  simp only [Dn] at dn3
  obtain ⟨t, xs, rfl, ht, da⟩ := dn3
  have le := da.len
  refine ⟨t, n, xs, rfl, rfl, (SqT.of ht), ⟨by have := hz.2; omega, by have := hz.2; omega⟩, by rw [← le, sizeLine_eq]; exact hz.1, fun z => ?_, fun z1 z2 p hp => ?_⟩
  · refine k _ H2 _ (s1.trans s2) ?_ q3
    have e : (List.replicate n.toNat ds).flatten = ds := by
      rcases z with z | z
      · have : ds = [] := List.length_eq_zero_iff.mp (by rw [le, z]; rfl)
        rw [this]
        simp
      · rw [z]
        simp
    rw [e]
    simp only [Dn]
    exact ⟨t, xs, rfl, ht, da⟩
  · refine k _ _ _ ((s1.trans s2).trans (same_upd hp)) ?_ q3
    simp only [Dn]
    exact ⟨p, _, rfl, upd_same, Dns.fits (.same (same_upd hp)) _ _ (dns_repT da _)⟩
end
end L6
end
section
set_option Elab.async false
set_option linter.all false
set_option maxRecDepth 100000
set_option maxHeartbeats 3999999
namespace L6
open PySem PySem.Spec PyProof.Rows L2 L3 L4
section
variable {X : Cx}
end
end L6
end
section
set_option Elab.async false
set_option linter.all false
set_option maxRecDepth 100000
set_option maxHeartbeats 3999999
namespace L7
open PySem PySem.Spec PyProof.Rows L2 L3 L4 LL
noncomputable def kI (ns : List Int) : List Key := ns.map Sum.inl
theorem kI_inj : ∀ {a b : List Int}, kI a = kI b → a = b
  | [], [], _ => rfl
  | [], _ :: _, h => by cases h
  | _ :: _, [], h => by cases h
  | x :: a, y :: b, h => by
    unfold kI at h
    rw [List.map_cons, List.map_cons] at h
    injection h with h1 h2
    injection h1 with h1
    rw [h1, kI_inj h2]
section
variable (rd : List Int → List (List Int))
noncomputable def Memo (n : Nat) (kvs : List (List Key × V)) : Prop := ∀ k v, valV kvs k = some v → ∃ ns : List Int, k = kI ns ∧ v = .int (Wf rd (n - ns.length) ns)
theorem Memo.at {rd : List Int → List (List Int)} {n : Nat} {kvs : List (List Key × V)} (h : Memo rd n kvs) {a : List Int} {v : V} (e : valV kvs (kI a) = some v) : v = .int (Wf rd (n - a.length) a) := by
  obtain ⟨ns, e1, e2⟩ := h _ _ e
  rw [kI_inj e1]
  exact e2
noncomputable def But (p : Addr) (H H' : Hp) : Prop := ∀ b o, b ≠ p → H b = some o → H' b = some o
theorem But.trans {p : Addr} {H H1 H2 : Hp} (a : But p H H1) (b : But p H1 H2) : But p H H2 := fun c o n h => b c o n (a c o n h)
theorem But.upd {p : Addr} {H : Hp} {o : HO} : But p H (upd H p o) := fun c q n h => by rw [upd_ne n]; exact h
noncomputable abbrev All : Addr → Prop := fun _ => True
end
noncomputable def At (K : PySem.W.Frag) (x : List (List Int)) (a : List Int) (p : Addr) (σ : L2.St) (H : Hp) : Prop :=
  ∃ vo va, σ[0]? = some (some vo) ∧ Dn K All H (ordD x) vo ∧ σ[1]? = some (some va) ∧ Dn K All H (tupI a) va ∧ σ[2]? = some (some (.ref p))
end L7
end
section
set_option Elab.async false
set_option linter.all false
set_option maxRecDepth 100000
set_option maxHeartbeats 3999999
namespace L7
open PySem PySem.Spec PyProof.Rows L2 L3 L4 LL
section
variable {K : PySem.W.Frag} {rd : List Int → List (List Int)} {x : List (List Int)} {Ok : List Int → Prop} {a : List Int} {p : Addr} {σ : L2.St} {H : Hp} {kvs : List (List Key × V)}
structure Parts (K : PySem.W.Frag) (rd : List Int → List (List Int)) (x : List (List Int)) (a : List Int) (C1 : TT) (T1 : TE) (T3 : TS) : Prop where
  c1 : ∀ p σ H Q, At K x a p σ H → (∀ H', Same H H' → Q (decide (a.length = x.length)) H') → C1 σ H Q
  t1 : ∀ σ H (Q : VK), (∀ H', Same H H' → Q (.int 1) H') → T1 σ H Q
  t3 : ∀ p (D : Ends) σ H, σ.length = 4 → At K x a p σ H → a.length < x.length → (∀ (σ' : L2.St) (H' : Hp) (l : Addr) (ps : List Addr), Same H H' → At K x a p σ' H' → σ'[3]? = some (some (.ref l)) → H' l = some (.lst (ps.map V.ref)) → ps.length = (rd a).length →
    (∀ (i : Nat) (q : Addr) (b : List Int), ps[i]? = some q → (rd a)[i]? = some b → H' q = some (.tup (b.map V.int))) → D.nx σ' H') → T3 D σ H
end
end L7
end
section
set_option Elab.async false
set_option linter.all false
set_option maxRecDepth 100000
set_option maxHeartbeats 3999999
namespace L7
open PySem PySem.Spec PyProof.Rows L2 L3 L4 LL
section
variable {K : PySem.W.Frag} {rd : List Int → List (List Int)} {x : List (List Int)} {Ok : List Int → Prop} {a : List Int} {p : Addr} {σ : L2.St} {H : Hp} {kvs : List (List Key × V)}
end
end L7
end
section
set_option Elab.async false
set_option linter.all false
set_option maxRecDepth 100000
set_option maxHeartbeats 3999999
namespace L7
open PySem PySem.Spec PyProof.Rows L2 L3 L4 LL
end L7
end
section
set_option Elab.async false
set_option linter.all false
set_option maxRecDepth 100000
set_option maxHeartbeats 3999999
namespace L7
open PySem PySem.Spec PyProof.Rows
section
variable {prog : Program} {w : World} {A : Around} {E : Value → Shared → Prop} {s : Shared} {d it : Addr} {o : Obj} {es : Array DictEntry} {ep i : Nat}
end
end L7
end
section
set_option Elab.async false
set_option linter.all false
set_option maxRecDepth 100000
set_option maxHeartbeats 3999999
namespace L8
open PySem PySem.Spec PyProof.Rows L2
noncomputable def valX (kvs : List (KX × V × V)) (k : KX) : Option V := (kvs.find? fun p => decide (p.1 = k)).map (·.2.2)
noncomputable abbrev PL : List (KX × V × V) → List (Key × Value) → Prop := Paired fun p q => p.1 = .inl q.1 ∧ p.2.1 = kV q.1 ∧ RelV p.2.2 q.2
noncomputable abbrev PT (H : Hp) : List (KX × V × V) → List (N1 × Addr × Value) → Prop := Paired fun p q => p.1 = .inr q.1 ∧ p.2.1 = .ref q.2.1 ∧ NestAt H q.1 q.2.1 ∧ RelV p.2.2 q.2.2
theorem PL.val {kvs : List (KX × V × V)} {vs : List (Key × Value)} (r : PL kvs vs) (k : Key) : RelO (valX kvs (.inl k)) (valueAt vs k) := by
  induction r with
  | nil => exact True.intro
  | @cons p q ps qs h t ih =>
    by_cases e : q.1 = k
    · have e1 : p.1 = .inl k := by rw [h.1, e]
      have a : valX (p :: ps) (.inl k) = some p.2.2 := by unfold valX; rw [List.find?_cons, decide_eq_true e1]; rfl
      have b : valueAt (q :: qs) k = some q.2 := by unfold valueAt; rw [List.find?_cons]; simp [e]
      rw [a, b]
      exact h.2.2
    · have e1 : ¬ p.1 = .inl k := fun z => e (by rw [h.1] at z; exact Sum.inl.inj z)
      have a : valX (p :: ps) (.inl k) = valX ps (.inl k) := by unfold valX; rw [List.find?_cons, decide_eq_false e1]
      have b : valueAt (q :: qs) k = valueAt qs k := by unfold valueAt; rw [List.find?_cons]; simp [e]
      rw [a, b]
      exact ih
theorem PT.val {H : Hp} {kvs : List (KX × V × V)} {xs : List (N1 × Addr × Value)} (r : PT H kvs xs) (k : N1) : RelO (valX kvs (.inr k)) ((atKey xs k).map (·.2)) := by
  induction r with
  | nil => exact True.intro
  | @cons p q ps qs h t ih =>
    by_cases e : q.1 = k
    · have e1 : p.1 = .inr k := by rw [h.1, e]
      have a : valX (p :: ps) (.inr k) = some p.2.2 := by unfold valX; rw [List.find?_cons, decide_eq_true e1]; rfl
      have b : atKey (q :: qs) k = some q.2 := by unfold atKey; rw [List.find?_cons]; simp [e]
      rw [a, b]
      exact h.2.2.2
    · have e1 : ¬ p.1 = .inr k := fun z => e (by rw [h.1] at z; exact Sum.inr.inj z)
      have a : valX (p :: ps) (.inr k) = valX ps (.inr k) := by unfold valX; rw [List.find?_cons, decide_eq_false e1]
      have b : atKey (q :: qs) k = atKey qs k := by unfold atKey; rw [List.find?_cons]; simp [e]
      rw [a, b]
      exact ih
section
variable {P : Program} {w : World} {H : Hp} {h : Heap} {a : Addr} {o : Obj} {kvs : List (KX × V × V)}
end
section
variable {X : Cx} {pins : List (Addr × Obj)} {σ : L2.St} {H : Hp} {s : Shared} {a : Addr} {y v z : V} {u r : Value} {A : Around} {E : Value → Shared → Prop} {o : Obj} {kvs : List (KX × V × V)} {k : KX}
end
end L8
end
section
set_option Elab.async false
set_option linter.all false
set_option maxRecDepth 100000
set_option maxHeartbeats 3999999
namespace L8
open PySem PySem.Spec PyProof.Rows L2 L7
section
variable {X : Cx} {o i e f value : Expr} {pos pos' : Pos} {td ty tv tz : TE}
end
end L8
end
section
set_option Elab.async false
set_option linter.all false
set_option maxRecDepth 100000
set_option maxHeartbeats 3999999
namespace L8
open PySem PySem.Spec PyProof.Rows L2 L3 L4
section
variable {K : PySem.W.Frag} {S : Addr → Prop} {H : Hp}
end
section
variable {X : Cx}
section
variable {o i : Expr} {pos : Pos} {fo fi : EF}
end
end
end L8
end
section
set_option Elab.async false
set_option linter.all false
set_option maxRecDepth 100000
set_option maxHeartbeats 3999999
namespace L8
open PySem PySem.Spec PyProof.Rows L2 L3 L4
section
variable {X : Cx}
end
end L8
end
section
set_option Elab.async false
set_option linter.all false
set_option maxRecDepth 100000
set_option maxHeartbeats 3999999
namespace L8
open PySem PySem.Spec PyProof.Rows L2 L3 L4
section
variable {X : Cx}
end
end L8
end
section
set_option Elab.async false
set_option linter.all false
set_option maxRecDepth 100000
set_option maxHeartbeats 3999999
namespace L8
open PySem PySem.Spec PyProof.Rows L2 L3 L4
section
variable {X : Cx}
end
end L8
end
section
set_option Elab.async false
set_option linter.all false
set_option maxRecDepth 100000
set_option maxHeartbeats 3999999
namespace L8
open PySem PySem.Spec PyProof.Rows L2 L3 L4 L5
section
variable {X : Cx}
end
end L8
end
section
set_option Elab.async false
set_option linter.all false
set_option maxRecDepth 100000
set_option maxHeartbeats 3999999
namespace L8
open PySem PySem.Spec PyProof.Rows L2 L3 L4
section
variable {X : Cx}
section
variable {a b : Expr} {fa fb : EF} {pos : Pos}
end
end
end L8
end
section
set_option Elab.async false
set_option linter.all false
set_option maxRecDepth 100000
set_option maxHeartbeats 3999999
namespace L9
open PySem PySem.Spec PyProof.Rows L2 L3 L4 L5
section
variable {X : Cx}
end
end L9
end
section
set_option Elab.async false
set_option linter.all false
set_option maxRecDepth 100000
set_option maxHeartbeats 3999999
namespace L9
open PySem PySem.Spec PyProof.Rows L2 L3 L4 L5
section
variable {X : Cx} {pins : List (Addr × Obj)} {σ : L2.St} {H : Hp} {s : Shared}
end
section
variable {X : Cx}
end
end L9
end
section
set_option Elab.async false
set_option linter.all false
set_option maxRecDepth 100000
set_option maxHeartbeats 3999999
namespace L9
open PySem PySem.SeqAt PySem.Spec PyProof.Rows L2 L3 L4 L5
section
variable {X : Cx}
section
variable {o e : Expr} {fo fe : EF} {apos cpos : Pos}
end
end
end L9
end
section
set_option Elab.async false
set_option linter.all false
set_option maxRecDepth 100000
set_option maxHeartbeats 3999999
namespace L9
open PySem PySem.Spec PyProof.Rows L2 L3 L4 L5
section
variable {X : Cx}
end
end L9
end
section
set_option Elab.async false
set_option linter.all false
set_option maxRecDepth 100000
set_option maxHeartbeats 3999999
namespace L9
open PySem PySem.SeqAt PySem.Spec PyProof.Rows L2 L3 L4 L5
section
variable {X : Cx}
end
end L9
end
section
set_option Elab.async false
set_option linter.all false
set_option maxRecDepth 100000
set_option maxHeartbeats 3999999
namespace L4
open PySem PySem.Spec PyProof.Rows L2 L3 PySem.W Att
section
variable {X : Cx} {pins : List (Addr × Obj)} {σ : L2.St} {H : Hp} {s : Shared}
end
section
variable {X : Cx} {pins : List (Addr × Obj)} {σ : L2.St} {H : Hp} {s : Shared} {P : List (Addr × Obj)} {f : Value} {t : V → Hp → VK → Prop} {xs : List V} {us : List Value} {a kS : Addr} {e1 : Nat} {E : Value → Shared → Prop}
  {W : Nat → List V → Hp → Prop}
end
end L4
end
section
set_option Elab.async false
set_option linter.all false
set_option maxRecDepth 100000
set_option maxHeartbeats 3999999
namespace L4
open PySem PySem.Spec PyProof.Rows L2 L3 PySem.W Att
structure LamOk (X : Cx) (x : Str) (fs : List Str) (fr : List Nat) (sc : Scope) : Prop where
  kind : sc.kind = .function
  co : sc.isCoroutine = false
  gen : sc.isGenerator = false
  par : sc.names.lookup x = some .local
  nocell : ∀ y ∈ sc.names, y.2 ≠ .cell
  free : ∀ y ∈ sc.names, y.2 = .free → X.env.kindOf y.1 = some .cell ∨ X.env.kindOf y.1 = some .free
  slot : ∀ (k : Nat) (y : Str), fs[k]? = some y → ∃ j, fr[k]? = some j ∧ X.N[j]? = some y ∧ (y, NameKind.free) ∈ sc.names ∧ sc.names.lookup y = some .free
  lenF : fr.length = fs.length
section
variable {X : Cx} {pins : List (Addr × Obj)} {σ : L2.St} {H : Hp} {s : Shared}
end
end L4
end
section
set_option Elab.async false
set_option linter.all false
set_option maxRecDepth 100000
set_option maxHeartbeats 3999999
namespace L4
open PySem PySem.Spec PyProof.Rows L2 L3 PySem.W Att
section
variable {X : Cx}
end
section
variable {X : Cx}
end
theorem tab_none {K : PySem.W.Frag} {x : Str} (h : nsIn K mainGlobals x = some none) : tabIn K x = none := by
  unfold tabIn
  rw [h]
theorem lamTabs_5 {K : PySem.W.Frag} {r1 r2 r3 r4 r5 : Option (Addr × Addr)} (h1 : tabIn K "going_of" = r1) (h2 : tabIn K "count_of_chain" = r2) (h3 : tabIn K "cut_paper" = r3) (h4 : tabIn K "downsets" = r4) (h5 : tabIn K "strictest_chains" = r5) :
    lamTabs K = ([("going_of", r1), ("count_of_chain", r2), ("cut_paper", r3), ("downsets", r4), ("strictest_chains", r5)] : List (Str × Option (Addr × Addr))).filterMap fun p => p.2.map fun t => (p.1, t.1, t.2) := by
  subst h1 h2 h3 h4 h5
  rfl
theorem tabs_ok {K : PySem.W.Frag} {q : Program} {L : List (Str × Addr × Addr)} (h : lamTabs K = L) (nd : (L.map (·.2.2)).Nodup) (rc : ∀ t ∈ L, ∃ e, (recsOf q).find? (fun e => e.name == t.1) = some e) : TabsOk K q := ⟨by rw [h]; exact nd, by rw [h]; exact rc⟩
end L4
end
section
set_option Elab.async false
set_option linter.all false
set_option maxRecDepth 100000
set_option maxHeartbeats 3999999
namespace L4
open PySem PySem.Spec PyProof.Rows L2 L3
section
variable {prog : Program} {w : World} {A : Around} {E : Value → Shared → Prop} {s : Shared} {z TI TO i1 i2 : Addr} {f1 f2 : List Addr} {n1 n2 k : Nat} {P1 P2 : Nat → Value → Prop} {S1 S2 : Nat → Heap → Prop} {a b : Value}
structure Zap (z TI TO i1 i2 : Addr) (f1 f2 : List Addr) : Prop where
  zO : z ≠ TO
  zI : z ≠ TI
  OI : TO ≠ TI
  m1 : i1 ∈ f1
  m2 : i2 ∈ f2
  z1 : z ∉ f1
  z2 : z ∉ f2
  o1 : TO ∉ f1
  o2 : TO ∉ f2
  c1 : i1 ∉ f2
  c2 : i2 ∉ f1
  I1 : TI ≠ i1
  I2 : TI ≠ i2
theorem Zap.q1 (p : Zap z TI TO i1 i2 f1 f2) : z ≠ i1 := fun e => p.z1 (e ▸ p.m1)
theorem Zap.q2 (p : Zap z TI TO i1 i2 f1 f2) : z ≠ i2 := fun e => p.z2 (e ▸ p.m2)
end
section
variable {X : Cx} {es : List Expr} {kk : Nat} {tp : Pos}
end
end L4
end
section
set_option Elab.async false
set_option linter.all false
set_option maxRecDepth 100000
set_option maxHeartbeats 3999999
namespace L4
open PySem PySem.Spec PyProof.Rows L2 L3
section
variable {X : Cx} {es : List Expr} {kk : Nat} {tp : Pos}
end
end L4
end
section
set_option Elab.async false
set_option linter.all false
set_option maxRecDepth 100000
set_option maxHeartbeats 3999999
namespace L4
open PySem PySem.SeqAt PySem.Spec PyProof.Rows L2 L3
section
variable {X : Cx}
section
variable {o e : Expr} {fo fe : EF} {apos cpos : Pos}
end
end
end L4
end
section
set_option Elab.async false
set_option linter.all false
set_option maxRecDepth 100000
set_option maxHeartbeats 3999999
namespace L4
open PySem PySem.Spec PyProof.Rows L2 L3 PySem.W Att
section
variable {X : Cx}
end
section
variable {X : Cx}
end
end L4
end
section
set_option Elab.async false
set_option linter.all false
set_option maxRecDepth 100000
set_option maxHeartbeats 3999999
namespace L4
open PySem PySem.Spec PyProof.Rows L2 L3 PySem.W Att
section
variable {X : Cx}
end
section
variable {X : Cx}
end
end L4
end
section
set_option Elab.async false
set_option linter.all false
set_option maxRecDepth 100000
set_option maxHeartbeats 3999999
namespace L4
open PySem PySem.Spec PyProof.Rows L2 L3 PySem.W Att
section
variable {X : Cx} {σ : L2.St}
variable {pins : List (Addr × Obj)} {H : Hp} {xs : List V} {l q It S : Addr} {t : V → Hp → VK → Prop} {R : Result → Shared → Prop}
end
section
variable {X : Cx}
end
end L4
end
section
set_option Elab.async false
set_option linter.all false
set_option maxRecDepth 100000
set_option maxHeartbeats 3999999
namespace L6
open PySem PySem.Spec PyProof.Rows
section
variable {prog : Program} {w : World} {A : Around} {E : Value → Shared → Prop} {s : Shared}
end
section
open L2 L3 L4
variable {X : Cx}
end
end L6
end
section
set_option Elab.async false
set_option linter.all false
set_option maxRecDepth 100000
set_option maxHeartbeats 3999999
namespace L4
open PySem PySem.Spec PyProof.Rows L2 L3 L5
section
variable {K : PySem.W.Frag} {H₀ H H' : Hp} {S : Addr → Prop} {w : Nat → Addr} {σ : L2.St} {ρ : SEnv} {G : List (D × V)}
theorem ints_back : ∀ {ys : List D} {x : List Int}, intsOf ys = some x → ys = x.map D.int
  | [], x, h => by cases h; rfl
  | d :: ys, x, h => by
    cases d <;> first | (cases h; done) | skip
    rename_i i
    obtain ⟨z, e, rfl⟩ := mpd (show (intsOf ys).map (i :: ·) = some x from h)
    rw [ints_back e]; rfl
theorem Rw.atH {xs : List (List Int)} {as : List Addr} (h4 : as.map H = xs.map fun x => some (HO.lst (x.map V.int))) {j : Nat} {r : List Int} (hj : xs[j]? = some r) : ∃ a, as[j]? = some a ∧ H a = some (.lst (r.map V.int)) := by
  have q := congrArg (fun l => l[j]?) h4
  simp only [List.getElem?_map, hj] at q
  cases e : as[j]? with
  | none => rw [e] at q; cases q
  | some a => rw [e] at q; exact ⟨a, rfl, Option.some.inj q⟩
theorem rows_dns {T : Addr → Prop} : ∀ {xs : List (List Int)} {as : List Addr}, (∀ a ∈ as, T a) → (as.map H = xs.map fun x => some (HO.lst (x.map V.int))) → Dns K T H (lstsI xs) (as.map V.ref)
  | [], [], _, _ => by simp only [lstsI, List.map_nil, Dns]
  | [], _ :: _, _, h => by cases h
  | _ :: _, [], _, no => by cases no
  | x :: xs, a :: as, hs, h => by
    rw [List.map_cons, List.map_cons] at h
    simp only [lstsI, List.map_cons, Dns]
    refine ⟨_, _, rfl, ?_, rows_dns (fun b hb => hs b (List.mem_cons_of_mem _ hb)) (List.cons.inj h).2⟩
    simp only [Dn]
    exact ⟨a, _, rfl, (List.cons.inj h).1, hs a List.mem_cons_self, Dns.ints.2 rfl⟩
theorem ST.cast {i : Nat} (h : ST K H₀ S w σ H ρ G) : ST K H₀ S w σ H (castS ρ i) G := by
  unfold castS
  split
  · rename_i xs e
    obtain ⟨_, _, as, h1, h2, h3, h4⟩ := h.own i _ e
    have eu : upd H (w i) (.lst (as.map V.ref)) = H := by
      funext b
      by_cases hb : b = w i
      · subst hb; rw [upd_same, h1]
      · exact upd_ne hb
    have := h.write (o := .lst (as.map V.ref)) (d' := .lst (lstsI xs)) e (by rw [eu]; exact ⟨_, h1, rows_dns h3 h4⟩)
    rw [eu] at this
    exact this
  · exact h
end
section
variable {X : Cx}
theorem castS4 (i : Nat) {st : Stmt} {f : SF} (h : PS4 X st f) : PS4 X st (sCast i f) := impS h fun B σ H hq102 => by obtain ⟨H₀, S, w, ρ, G, E, hl, st, ht, ok⟩ := hq102; exact ⟨H₀, S, w, castS ρ i, G, E, hl, ST.cast st, ht, ok⟩
theorem pxl4 {e : Expr} {f : EF} (h : PF4 X e f) : PX4 X e (xPureL f) := imp h fun σ H Q hq103 => by
  obtain ⟨H₀, S, w, ρ, G, Q3, hl, st, ⟨p, e1, q⟩, k⟩ := hq103
  obtain ⟨d, ed, e1⟩ := bnd e1
  by_cases hi : lstImm d = true
  · rw [if_pos hi] at e1
    cases e1
    refine ⟨S, vAll ρ, fun y => y = d, st.fcH, st.all, ⟨d, ed, rfl⟩, fun p xs H' ds hp hp' s' d' q' => ?_⟩
    subst q'
    exact k w (.ref p) H' ρ (.lst ds) (st.same s') (by simp only [Dn]; exact ⟨p, xs, rfl, hp', st.fcO p hp, Dns.imm hi d'⟩) q
  · rw [if_neg hi] at e1; cases e1
theorem slL4 {e : Expr} {lo hi : Option Expr} {p2 pos : Pos} {f : EF} {fl fh : OF} (he : PE4 X e f) (hl : PO4 X lo fl) (hh : PO4 X hi fh) : PF4 X (.Subscript e (.Slice lo hi none p2) pos) (eSlL f fl fh) :=
  imp (pe_slice sl_list he hl hh) fun σ H Q hq104 => by
    obtain ⟨S, ρ, Q3, fc, sl, ⟨r, e1, q⟩, k⟩ := hq104
    obtain ⟨d, ed, e1⟩ := bnd e1
    obtain ⟨l, el, e1⟩ := bnd e1
    obtain ⟨h, eh, e1⟩ := bnd e1
    obtain ⟨ds, rfl⟩ : ∃ ds, d = .lst ds := by cases d <;> first | exact ⟨_, rfl⟩ | cases e1
    obtain rfl : D.lst (cutP ds l h) = r := Option.some.inj e1
    refine ⟨S, ρ, fun y => y = .lst ds, fc, sl, ⟨_, ed, rfl⟩, fun v H1 d1 s1 d1' q1 => ?_⟩
    subst q1
    refine ⟨S, ρ, fun y => y = l, fc_same fc s1, Sl.fits (.same s1) sl, ⟨_, el, rfl⟩, fun o H2 s2 q2 => ?_⟩
    subst q2
    refine ⟨S, ρ, fun y => y = h, fc_same fc (s1.trans s2), Sl.fits (.same (s1.trans s2)) sl, ⟨_, eh, rfl⟩, fun o2 H3 s3 q3 => ?_⟩
    subst q3
    simp only [Dn] at d1'
    obtain ⟨a, xs, rfl, ha, sa, da⟩ := d1'
    have dc := Dns.fits (.same (s2.trans s3)) _ _ (Dns.cut (lo := o) (hi := o2) da)
    exact ⟨a, xs, rfl, SqL.of ((s2.trans s3) _ _ ha), fun p hp => k p _ _ _ (((s1.trans s2).trans s3).free hp) upd_same (((s1.trans s2).trans s3).trans (same_upd hp)) (Dns.fits ((Fits.fresh hp).trans (.same (same_upd hp))) _ _ dc) q⟩
theorem revB4 {e st : Expr} {f : EF} {p2 pos : Pos} (he : PE4 X e f) (hst : PE4 X st (eNeg (eC (.int 1)))) : PF4 X (.Subscript e (.Slice none none (some st) p2) pos) (eRevS f) := by
  intro pins s σ H Q I h
  obtain ⟨S, ρ, Q3, fc, sl, ⟨d, e1, q⟩, k⟩ := h
  obtain ⟨d0, e2, e3⟩ := bnd e1
  cases d0 <;> first | (cases e3; done) | skip
  rename_i ds
  cases e3
  refine Subscript_ (thn (he pins s σ H (fun x H1 => Same H H1 ∧ Dn X.K S H1 (.lst ds) x) I ⟨S, ρ, fun d => d = .lst ds, fc, sl, ⟨_, e2, rfl⟩, fun v H' d s' d' q' => by subst q'; exact ⟨s', d'⟩⟩) fun v s1 ⟨x, H1, I1, r1, s1', d1⟩ => ?_)
  refine wpAny_Slice ?_
  rw [evalPart_none]
  refine wpAny_pure ?_
  refine wpAny_pure ?_
  rw [evalPart_some]
  refine thn (hst pins s1 σ H1 (fun x H2 => Same H1 H2 ∧ x = .int (-1)) I1 ⟨S, ρ, fun d => d = .int (-1), fc_same fc s1', Sl.fits (.same s1') sl, ⟨_, rfl, rfl⟩, fun v H' d s' d' q' => by subst q'; simp only [Dn] at d'; exact ⟨s', d'⟩⟩) fun u s2 hq105 => ?_
  obtain ⟨y, H2, I2, r2, s2', ey⟩ := hq105
  subst ey
  obtain ⟨t, rfl⟩ := r2
  simp only [Dn] at d1
  obtain ⟨a, xs, rfl, ha, sa, da⟩ := d1
  cases r1
  have hH := s2' _ _ ha
  have I3 : Inv X pins σ H2 { s2 with heap := s2.heap.push { cls := .type "slice", data := .fields #[.none, .none, .int (-1) t] } } := I2.kept (t' := s2.toks) fun b ob q => Heap.get?_push_of_some _ q
  obtain ⟨z, its, n, r, hl, e9⟩ := I3.lstM hH
  show wpAny (model X.prog X.w) X.A (subscriptTail e (.Slice none none (some st) p2) (.ref a) (.ref s2.heap.objs.size)) (EP X pins σ Q) X.xe { s2 with heap := s2.heap.push { cls := .type "slice", data := .fields #[.none, .none, .int (-1) t] } }
  refine tail_any (ops := [.ref a, .ref s2.heap.objs.size]) (T := "list") ⟨_, e9, rfl⟩ PySem.F.slot_list_getitem.lookup ?_ (by with_unfolding_all rfl)
  refine wpAny_getItem_list_slice (items := its.toArray) ⟨_, e9, rfl, n, rfl⟩ (Heap.IsSliceOf.new ..) .none .none (.int (-1) t) (by decide) ?_ (by rw [List.size_toArray, ← hl]; exact z)
  rw [pick_rev]
  have dl := dns_rev (Dns.fits (.same s2') _ _ da)
  exact ⟨.ref _, _, I3.lnew (t' := s2.toks) (vals_rev r) (by rw [List.length_reverse]; exact z), rfl, k _ _ _ _ ((s1'.trans s2').free I3.fresh) upd_same ((s1'.trans s2').trans (same_upd I3.fresh)) (Dns.fits ((Fits.fresh I3.fresh).trans (.same (same_upd I3.fresh))) _ _ dl) q⟩
noncomputable def liftN (K : PySem.W.Frag) (xc : Str → Hp → Prop) (n : Nat) (t : WS) : TS := fun B σ H => ∃ (H₀ : Hp) (S : Addr → Prop) (w : Nat → Addr) (ρ : SEnv) (E : DE), σ.length = n ∧ ST K H₀ S w σ H ρ [] ∧ t E ρ ∧ EndsOk K xc n H₀ S [] E B
noncomputable def PN4 (X : Cx) (st : Stmt) (f : SF) : Prop := PS X st (liftN X.K (XC X) X.N.length (wS f))
noncomputable def PNs4 (X : Cx) (st : List Stmt) (f : SF) : Prop := PSs X st (liftN X.K (XC X) X.N.length (wS f))
theorem ofN {st : Stmt} {f : SF} (h : PS4 X st f) : PN4 X st f := impS h fun B σ H hq106 => by obtain ⟨H₀, S, w, ρ, E, hl, sT, ht, ok⟩ := hq106; exact ⟨H₀, S, w, ρ, [], E, hl, sT, ht, ok⟩
theorem seqN {st : Stmt} {rest : List Stmt} {f g : SF} (h1 : PN4 X st f) (h2 : PNs4 X rest g) : PNs4 X (st :: rest) (sSeq f g) := impSs (pss_cons h1 h2) fun B σ H hq107 => by
 obtain ⟨H₀, S, w, ρ, E, hl, sT, ht, ok⟩ := hq107
 exact ⟨H₀, S, w, ρ, { E with nx := wS g E }, hl, sT, seq_w E ρ ht, ⟨fun w' σ' H' ρ' hl' st' q => ⟨H₀, S, w', ρ', E, hl', st', q, ok⟩, ok.rt, ok.bk, ok.ct, ok.ex⟩⟩
theorem lastN {st : Stmt} {f : SF} (h1 : PN4 X st f) : PNs4 X [st] f := impSs (pss_one h1) fun _ _ _ h => h
theorem ifN {c : Expr} {a b : List Stmt} {pos : Pos} {t : TF} {f g : SF} (hc : PT4 X c t) (ha : PNs4 X a f) (hb : PNs4 X b g) : PN4 X (.If c a b pos) (sIf t f g) := impS (ps_if hc ha hb) fun B σ H hq108 => by
  obtain ⟨H₀, S, w, ρ, E, hl, st, ht, ok⟩ := hq108
  unfold wS sIf at ht
  cases h : t (vAll ρ) with
  | none => rw [h] at ht; exact ht.elim
  | some c =>
    rw [h] at ht
    refine ⟨S, vAll ρ, fun b => b = c, st.fcH, st.all, ⟨c, h, rfl⟩, fun d H1 s1 q1 => ?_⟩
    subst q1
    cases d with
    | true => rw [if_pos rfl]; exact ⟨H₀, S, w, ρ, E, hl, st.same s1, ht, ok⟩
    | false => rw [if_neg Bool.false_ne_true]; exact ⟨H₀, S, w, ρ, E, hl, st.same s1, ht, ok⟩
theorem lift_rows {K : PySem.W.Frag} {nl n : Nat} {fr : List Nat} {it : AF} {g : GEF} {e : EF} {σ : L2.St} {H : Hp} {Q : VK} (hn : nl + fr.length = n) {S : Addr → Prop} {ρ : DEnv} (fc : ∀ a, H a = none → S a) (sl : Sl K S H ρ σ) {ds : List D} (hit : it ρ = some ds) (hsz : ds.length ≤ szL) {xs : List (List Int)} (hx : rowsC g e (benv nl fr ρ) ds = some xs)
    (k : ∀ (p : Addr) (as : List Addr) (H' : Hp), H p = none → H' p = some (.lst (as.map V.ref)) → Same H H' → as.Nodup → (∀ a ∈ as, (S a ∧ a ≠ p) ∧ H a = none) → (as.map H' = xs.map fun x => some (HO.lst (x.map V.int))) → Q (.ref p) H') :
    tComp nl fr (liftI K (wI it)) (liftGE K nl n (wGE g)) (liftT K wTrue) (liftF K (wE e)) σ H Q := by
  refine ⟨S, ρ, fun y => y = ds, fc, sl, ⟨ds, hit, rfl⟩, fun J H1 ds' G s1 hG wk q1 => ?_⟩
  subst q1
  intro acc hacc
  have h0 : H acc = none := s1.free hacc
  have fc1 := fc_same fc s1
  have ok : ∀ {H2 : Hp}, Same H1 H2 → (∃ ys, H2 acc = some (.lst ys)) → (∀ a, H2 a = none → S a ∧ a ≠ acc) ∧ Sl K (fun a => S a ∧ a ≠ acc) H2 (benv nl fr ρ) (bst nl fr σ) ∧ ∀ g ∈ G, Dn K (fun a => S a ∧ a ≠ acc) H2 g.1 g.2 := fun {H2} s2 hy => by
    refine ⟨fun a e => ⟨fc_same fc1 s2 a e, fun z => ?_⟩, sl_benv (Sl.fits ((Fits.fresh h0).trans (.same (s1.trans s2))) sl), fun g hg => Dn.fits ((Fits.fresh hacc).trans (.same s2)) _ _ (hG g hg)⟩
    subst z
    obtain ⟨ys, hy⟩ := hy
    rw [e] at hy; cases hy
  refine ⟨fun i m H2 ys => m = ds'.length - i ∧ i ≤ ds'.length ∧ Same H1 H2 ∧ H2 acc = some (.lst ys) ∧ ∃ (as : List Addr) (x1 x2 : List (List Int)), ys = as.map V.ref ∧ as.Nodup ∧ (∀ a ∈ as, (S a ∧ a ≠ acc) ∧ H a = none) ∧ (as.map H2 = x1.map fun x => some (HO.lst (x.map V.int))) ∧ as.length = i ∧ rowsC g e (benv nl fr ρ) (ds'.drop i) = some x2 ∧ x1 ++ x2 = xs,
    ⟨_, rfl, Nat.zero_le _, same_upd hacc, upd_same, [], [], xs, rfl, List.nodup_nil, fun a ha => (nomatch ha), rfl, rfl, hx, rfl⟩, ?_⟩
  rintro i m H2 ys ⟨rfl, hi, s2, hy, as, x1, x2, rfl, nd, fr1, hm, hl, rc, ex⟩
  obtain ⟨fc2, sl2, gh2⟩ := ok s2 ⟨_, hy⟩
  refine ⟨hy, ?_⟩
  by_cases hlt : i < ds'.length
  · refine .inr ?_
    obtain ⟨g1, g2⟩ := wk.go _ H2 fc2 gh2 i ds'[i] (by simp [hlt])
    refine ⟨g1, fun x H' y => ?_⟩
    obtain ⟨s3, dx⟩ := g2 x H' y
    rw [List.drop_eq_getElem_cons hlt, rowsC] at rc
    obtain ⟨ρ2, e1, rc⟩ := bnd rc
    obtain ⟨y1, e2, rc⟩ := bnd rc
    obtain ⟨z, e3, rc⟩ := bnd rc
    obtain ⟨x3, e4, rfl⟩ := mpd rc
    refine ⟨fun a => S a ∧ a ≠ acc, benv nl fr ρ, ds'[i], fun y => y = ρ2, ?_, fc_same fc2 s3, Sl.fits (.same s3) sl2, dx, ⟨ρ2, e1, rfl⟩, fun σ' ρ' sl' hd q' => ?_⟩
    · unfold bst; rw [List.length_append, List.length_replicate, List.length_map]; exact hn
    · subst q'
      refine ⟨by rw [hd]; unfold bst; rw [List.drop_append_of_le_length (by simp), List.drop_replicate]; simp, fun a => S a ∧ a ≠ acc, ρ', fun b => b = true, fc_same fc2 s3, sl', rfl, fun b H3 s4 q4 => ?_⟩
      subst q4
      rw [if_pos rfl]
      refine ⟨fun a => S a ∧ a ≠ acc, ρ', fun y => y = y1, fc_same fc2 (s3.trans s4), Sl.fits (.same s4) sl', ⟨y1, e2, rfl⟩, fun p ws H4 dw hp hp4 s5 d5 q5 => ?_⟩
      subst q5
      have ed := ints_back e3
      subst ed
      have ew := Dns.ints.1 d5
      subst ew
      have s24 := (s3.trans s4).trans s5
      have hy4 : H4 acc = some (.lst (as.map V.ref)) := s24 _ _ hy
      have pa : p ≠ acc := fun z => by subst z; rw [(s3.trans s4) _ _ hy] at hp; cases hp
      have old : ∀ a ∈ as, ∃ u, H2 a = some u := fun a ha => by
        have : H2 a ∈ as.map H2 := List.mem_map_of_mem ha
        rw [hm] at this
        obtain ⟨u, _, e⟩ := List.mem_map.1 this
        exact ⟨_, e.symm⟩
      have hnew : p ∉ as := fun ha => by
        obtain ⟨u, e⟩ := old p ha
        rw [(s3.trans s4) _ _ e] at hp; cases hp
      have same4 : as.map (upd H4 acc (.lst (as.map V.ref ++ [V.ref p]))) = as.map H2 := List.map_congr_left fun a ha => by
        obtain ⟨u, e⟩ := old a ha
        rw [upd_ne (fr1 a ha).1.2, s24 _ _ e, e]
      refine ⟨hy4, ?_, _, by omega, rfl, hlt, fun b u hb => ?_, upd_same, as ++ [p], x1 ++ [z], x3, by rw [List.map_append]; rfl, ?_, fun a ha => ?_, ?_, by rw [List.length_append, hl]; rfl, e4, by rw [List.append_assoc]; exact ex⟩
      · rw [List.length_map, hl, sizeLine_eq]; exact Nat.lt_of_lt_of_le hlt hsz
      · rw [upd_ne (ne_of_none hb hacc)]
        exact (s2.trans s24) _ _ hb
      · rw [List.nodup_append]
        exact ⟨nd, List.nodup_cons.2 ⟨fun h => (nomatch h), List.nodup_nil⟩, fun a ha b hb z => by rw [List.mem_singleton] at hb; subst hb; subst z; exact hnew ha⟩
      · rcases List.mem_append.1 ha with ha | ha
        · exact fr1 a ha
        · rw [List.mem_singleton] at ha
          subst ha
          have hH : H1 a = none := s2.free ((s3.trans s4).free hp)
          exact ⟨⟨fc1 a hH, pa⟩, s1.free hH⟩
      · rw [List.map_append, List.map_append, same4, hm]
        show _ ++ [upd H4 acc _ p] = _ ++ [_]
        rw [upd_ne pa, hp4]
  · have e : i = ds'.length := by omega
    subst e
    rw [List.drop_length, rowsC] at rc
    cases rc
    rw [List.append_nil] at ex
    subst ex
    exact .inl ⟨wk.stop _ H2 gh2 _ rfl, k acc as H2 h0 hy (s1.trans s2) nd fr1 hm⟩
theorem rows4 {i : Nat} {x : Str} {ls fs : List Str} {fr : List Nat} {sc : Scope} {tg iter elt : Expr} {pos spos pos' : Pos} {it : AF} {g : GEF} {e : EF} (nd : X.N.Nodup) (hc : X.calm = true) (hi : PI4 X tg iter it)
    (hg : ∀ cl C pn ex s H, (blk X (ls ++ fs) sc cl C pn ex s H).N.Nodup → PG44 (blk X (ls ++ fs) sc cl C pn ex s H) ls.length tg g) (he : ∀ cl C pn ex s H, PF4 (blk X (ls ++ fs) sc cl C pn ex s H) elt e)
    (hx0 : X.N[i]? = some x := by rfl) (hx : X.env.scope.names.lookup x = some .local := by rfl) (hsw : swapsWith (.ListComp elt [⟨tg, iter, [], 0⟩] sc pos) (some (.Name x pos')) spos.line X.env = pure true := by rfl)
    (B : chk X.env.scope.names sc X.N ls fs fr = true := by rfl) (hs : ∀ x, foldedSetIterable iter X.env x = pure x := by intro _; rfl) : PS4 X (.Assign [.Name x pos'] (.ListComp elt [⟨tg, iter, [], 0⟩] sc pos) spos) (sRows i ls.length fr it g e) :=
  impS (ps_setComp (g := liftGE X.K ls.length (ls ++ fs).length (wGE g)) (tf := liftT X.K wTrue) (te := liftF X.K (wE e)) nd hx0 hx hc (chk_ok B) hi (fun cl C pn ex s H => hg cl C pn ex s H (chk_ok B).nd) (fun cl C pn ex s H => noif) he hsw hs) fun Bd σ H hq109 => by
    obtain ⟨H₀, S, w, ρ, G, E, hl, st, ht, ok⟩ := hq109
    unfold wS sRows at ht
    cases h : (it (vRd ρ)).bind fun ds => if ds.length ≤ szL then rowsC g e (benv ls.length fr (vRd ρ)) ds else none with
    | none => rw [h] at ht; exact ht.elim
    | some xs =>
      rw [h] at ht
      obtain ⟨ds, e1, h⟩ := bnd h
      by_cases hz : ds.length ≤ szL
      · rw [if_pos hz] at h
        refine lift_rows (by rw [List.length_append, (chk_ok B).lenF]) st.fcO st.rd e1 hz h fun p as H' hp hp' s' nd2 fr1 hm => ?_
        refine ok.nx _ _ H' _ (by rw [List.length_set]; exact hl) (st.set_ow (d := .rws xs) (by rw [hl]; exact ix_lt hx0) s' hp ⟨as, hp', nd2, fun a ha => (fr1 a ha).1, hm⟩ fun _ _ ys hy a ha => ?_) ht
        rw [hp'] at hy
        cases hy
        obtain ⟨b, hb, e⟩ := List.mem_map.1 ha
        have e' : b = a := by cases e; rfl
        rw [← e']
        exact st.sm.free (fr1 b hb).2
      · rw [if_neg hz] at h; cases h
theorem rowIns4 {i : Nat} {x : Str} {eb ek ee : Expr} {p spos apos cpos pos : Pos} {fb fk fe : EF} (hb : PE4 X eb fb) (hk : PE4 X ek fk) (he : PE4 X ee fe)
    (hN : X.N[i]? = some x := by rfl) (hv : Vis X.env.scope x := by first | exact Or.inl rfl | exact Or.inr (Or.inl rfl) | exact Or.inr (Or.inr rfl)) (hd : (x == ("__debug__" : Str)) = false := by decide) (hcd : (x == ("__classdict__" : Str)) = false := by decide) (hix : PlainIx eb := by intro _ _; rfl)
    (hbase : attributeBase (.Subscript (.Name x p) eb spos) "insert" X.env (eval (.Subscript (.Name x p) eb spos) X.env) = eval (.Subscript (.Name x p) eb spos) X.env := by rfl)
    (hfew : ((backTo cpos (starEach [ek, ee] X.env)).all (fun x => !x.1) && (backToKw cpos (keywordEach [] X.env)).all (fun x => x.1.isSome)
      && decide ([ek, ee].length + ([] : List Keyword).length + (if ([] : List Keyword).isEmpty then 0 else 1) < 30)) = true := by rfl)
    (hline : (apos.endLine == cpos.line) = true := by rfl) (hs : starEach [ek, ee] X.env = (false, eval ek X.env) :: starEach [ee] X.env := by rfl) (hs2 : starEach [ee] X.env = (false, eval ee X.env) :: starEach [] X.env := by rfl) (hplain : (backTo cpos (starEach [ee] X.env)).any (·.1) = false := by rfl)
    (hsw : swapsWith (.Call (.Attribute (.Subscript (.Name x p) eb spos) "insert" apos) [ek, ee] [] cpos) none pos.line X.env = pure false := by rfl) :
    PN4 X (.Expr (.Call (.Attribute (.Subscript (.Name x p) eb spos) "insert" apos) [ek, ee] [] cpos) pos) (sRowIns X.N.length i fb fk fe) :=
  impS (ps_expr (pe_bm PySem.F.plainAttrs_list PySem.F.slot_list_insert PySem.F.type_list_insert mt_insert (pe_ix ix_list (pe_var hN hv hd hcd) hb hix) (pa_cons hk (pa_cons he pa_nil hs2) hs) hbase hfew hline hs hplain) hsw) fun B σ H hq110 => by
    obtain ⟨H₀, S, w, ρ, E, hl, st, ht, ok⟩ := hq110
    unfold wS sRowIns at ht
    cases h : rowIns X.N.length i fb fk fe ρ with
    | none => rw [h] at ht; exact ht.elim
    | some ρ' =>
      rw [h] at ht
      obtain ⟨xs, e0, h⟩ := bnd h
      obtain ⟨db, eb1, h⟩ := bnd h
      obtain ⟨bi, eb2, h⟩ := bnd h
      obtain ⟨j, ej, h⟩ := bnd h
      obtain ⟨r, er, h⟩ := bnd h
      obtain ⟨dk, ek1, h⟩ := bnd h
      obtain ⟨kk, ek2, h⟩ := bnd h
      obtain ⟨dy, ey1, h⟩ := bnd h
      obtain ⟨yy, ey2, h⟩ := bnd h
      by_cases hc : 0 ≤ kk ∧ kk ≤ (r.length : Int) ∧ r.length < szL
      · rw [if_pos hc] at h
        cases h
        obtain ⟨k0, k1, hz⟩ := hc
        cases db <;> first | (cases eb2; done) | skip
        cases eb2
        cases dk <;> first | (cases ek2; done) | skip
        cases ek2
        cases dy <;> first | (cases ey2; done) | skip
        cases ey2
        have o : ρ[i]? = some (Sv.ow (.rws xs)) := by
          cases e : ρ[i]? with
          | none => rw [e] at e0; cases e0
          | some s =>
            rw [e] at e0
            cases s with
            | no => cases e0
            | ro d => cases e0
            | ow d => cases d <;> first | (cases e0; done) | skip
                      cases e0; rfl
        have ix : ixN xs.length bi = some j := ej
        obtain ⟨a0, b0, -⟩ := st.own i _ o
        refine ⟨_, a0, S, vAll (castS ρ i), fun d => d = .int bi, (ST.cast (i := i) st).fcH, (ST.cast (i := i) st).all, ⟨_, eb1, rfl⟩, fun v1 H1 d1 s1 d1' q1 => ?_⟩
        subst q1
        simp only [Dn] at d1'
        subst d1'
        have st1 := st.same s1
        obtain ⟨_, _, as, h1, h2, h3, h4⟩ := st1.own i _ o
        obtain ⟨a, ea, ha⟩ := Rw.atH h4 er
        have hal : as.length = xs.length := by have := congrArg List.length h4; simpa using this
        refine ⟨w i, as.map V.ref, bi, .ref a, rfl, rfl, SqL.of h1, by unfold atI; rw [List.length_map, hal, ix]; show (as.map V.ref)[j]? = _; rw [List.getElem?_map, ea]; rfl, .inl ⟨rfl, _, SqL.of ha⟩, ?_⟩
        refine ⟨S, vAll (castS ρ i), fun d => d = .int kk, (ST.cast (i := i) st1).fcH, (ST.cast (i := i) st1).all, ⟨_, ek1, rfl⟩, fun v2 H2 d2 s2 d2' q2 => ?_⟩
        subst q2
        simp only [Dn] at d2'
        subst d2'
        have st2 := st1.same s2
        refine ⟨S, vAll (castS ρ i), fun d => d = .int yy, (ST.cast (i := i) st2).fcH, (ST.cast (i := i) st2).all, ⟨_, ey1, rfl⟩, fun v3 H3 d3 s3 d3' q3 => ?_⟩
        subst q3
        simp only [Dn] at d3'
        subst d3'
        have st3 := st2.same s3
        have hm3 : as.map H3 = xs.map fun x => some (HO.lst (x.map V.int)) := by
          rw [← h4]
          refine List.map_congr_left fun b hb => ?_
          have : H1 b ∈ as.map H1 := List.mem_map_of_mem hb
          rw [h4] at this
          obtain ⟨u, _, e⟩ := List.mem_map.1 this
          rw [← e]
          exact (s2.trans s3) _ _ e.symm
        have hp3 : H3 (w i) = some (.lst (as.map V.ref)) := (s2.trans s3) _ _ h1
        have ha3 : H3 a = some (.lst (r.map V.int)) := (s2.trans s3) _ _ ha
        have ham : a ∈ as := List.mem_of_getElem? ea
        have hf0 : H₀ a = none := st3.rw i xs o _ hp3 a (List.mem_map_of_mem ham)
        have hne : a ≠ w i := (h3 a ham).2 i _ o
        have kl : kk.toNat ≤ r.length := by omega
        refine ⟨a, r.map V.int, kk, .int yy, rfl, rfl, ha3, k0, by rw [List.length_map]; exact k1, by rw [List.length_map, sizeLine_eq]; exact hz, ?_⟩
        have jl : j < xs.length := (List.getElem?_eq_some_iff.1 er).1
        have own1 : ∀ (m : Nat) (d : D), ((List.replicate X.N.length Sv.no).set i (.ow (.lst (lstsI (xs.set j (r.take kk.toNat ++ yy :: r.drop kk.toNat))))))[m]? = some (Sv.ow d) → m = i ∧ d = .lst (lstsI (xs.set j (r.take kk.toNat ++ yy :: r.drop kk.toNat))) := fun m d hm => by
          rcases get_set hm with ⟨e1, e2, _⟩ | ⟨_, e2⟩
          · exact ⟨e1, Sv.ow.inj e2⟩
          · rw [List.getElem?_replicate] at e2
            split at e2 <;> cases e2
        have ro1 : ∀ (m : Nat) (d : D), ((List.replicate X.N.length Sv.no).set i (.ow (.lst (lstsI (xs.set j (r.take kk.toNat ++ yy :: r.drop kk.toNat))))))[m]? ≠ some (Sv.ro d) := fun m d hm => by
          rcases get_set hm with ⟨e1, e2, _⟩ | ⟨_, e2⟩
          · cases e2
          · rw [List.getElem?_replicate] at e2
            split at e2 <;> cases e2
        refine ok.nx w σ _ _ hl ⟨st3.fc, fun b u hb => ?_, fun m d hm => ?_, fun m m2 d e q1 q2 _ => ?_, fun m d hm => absurd hm (ro1 m d), fun g hg => (nomatch hg), fun m ys hm => ?_⟩ ht
        · rw [upd_ne (ne_of_none hb hf0)]
          exact st3.sm b u hb
        · obtain ⟨rfl, rfl⟩ := own1 m d hm
          refine ⟨a0, b0, as.map V.ref, by rw [upd_ne (Ne.symm hne)]; exact hp3, rows_dns (fun b hb => ⟨(h3 b hb).1, fun m' d' hm' => ?_⟩) ?_⟩
          · obtain ⟨rfl, -⟩ := own1 m' d' hm'
            exact (h3 b hb).2 _ _ o
          · refine List.ext_getElem? fun m' => ?_
            rw [List.getElem?_map, List.getElem?_map]
            by_cases hj : m' = j
            · subst hj
              rw [ea, List.getElem?_set_self jl]
              show some (upd H3 a _ a) = _
              rw [upd_same]
              show _ = some (some (HO.lst ((r.take kk.toNat ++ yy :: r.drop kk.toNat).map V.int)))
              rw [List.map_append, List.map_cons, List.map_take, List.map_drop]
            · rw [List.getElem?_set_ne (Ne.symm hj)]
              have q := congrArg (fun l => l[m']?) hm3
              simp only [List.getElem?_map] at q
              rw [← q]
              cases e : as[m']? with
              | none => rfl
              | some b =>
                show some (upd H3 a _ b) = some (H3 b)
                rw [upd_ne fun z => ?_]
                subst z
                have l1 := (List.getElem?_eq_some_iff.1 e)
                exact hj ((List.getElem?_inj l1.1 h2).1 (e.trans ea.symm))
        · rw [(own1 m d q1).1, (own1 m2 e q2).1]
        · have := (own1 m _ hm).2
          cases this
      · rw [if_neg hc] at h; cases h
theorem fun4N {P : Program} {w : World} {K : PySem.W.Frag} {mg : Str → Option Value} {base : Heap} {x qual : Str} {st : Stmt} {f : Addr} {fd : FuncData} {N ps : List Str} {k n np : Nat} {b : SF} (F : Fun K x qual st f fd) (S : FnScope N ps (defScope st)) (hn : N.length = n) (hp : ps.length = np)
    (hbody : ∀ (cdv : Value) (A : Around) (outer : List Env) (s : Shared) (H : Hp) (E : XK), Room k (A.deeper (envOfC qual (defScope st) s.heap.objs.size f cdv)) →
      PNs4 (cxOf CX0 P w K mg base N qual (defScope st) f cdv A outer s H E).nox (defBody st) b) : FnOk P w K mg base CX0 (k + 1) f fd ps (sp4 K (runF n np b)) := by
  subst hn hp
  have len : ∀ ds d, runF N.length ps.length b ds = .ok d → ds.length = ps.length := fun ds d e => by
    unfold runF at e
    by_cases h : ds.length = ps.length
    · exact h
    · rw [if_neg h] at e; cases e
  refine F.ok S (fun vs H Q E h => ?_) fun cdv A outer s H vs Q E hr h => ?_
  · obtain ⟨S', ds, Q3, fc, dn, ⟨d, e, q⟩, _⟩ := h
    rw [← dn.len]
    exact len ds d e
  · obtain ⟨S', ds, Q3, fc, dn, ⟨d, e, q⟩, kk⟩ := h
    have hl := len ds d e
    refine ⟨_, hbody cdv A outer s H E hr, H, S', fun _ => 0, start3 N ds, { nx := fun _ => Q3 .non, rt := Q3 }, ?_, start_st fc dn, ?_, ⟨fun w' σ' H' ρ' _ st' q => kk .non H' .non st'.sm (by simp only [Dn]) q, fun v H' d s' d' q => kk v H' d s' d' q, fun _ _ _ _ _ _ q => q, fun _ _ _ _ _ _ q => q, fun _ _ _ q => q.elim⟩⟩
    · have hl2 := dn.len
      have hp : ps.length ≤ N.length := by have := congrArg List.length S.pre; rw [List.length_take] at this; omega
      unfold L2.start
      show _ = N.length
      rw [List.length_append, List.length_map, List.length_replicate]
      omega
    · unfold runF at e
      rw [if_pos hl] at e
      have e2 : start3 N ds = startS N.length ds := rfl
      unfold wS
      rw [e2]
      cases hb : b (startS N.length ds) with
      | rt d' => rw [hb] at e; cases e; exact q
      | nx ρ => rw [hb] at e; cases e; exact q
      | no => rw [hb] at e; cases e
      | ex c => rw [hb] at e; cases e
end
end L4
end
section
set_option Elab.async false
set_option linter.all false
set_option maxRecDepth 100000
set_option maxHeartbeats 3999999
namespace K01
open PySem L2 L3 L4 L6 L7 L8 L9 L5
noncomputable def top (i : Nat) : Stmt := PySem.Challenge.pw_risecount_k01_what_is_an_order.main.body.getD i (.Pass ⟨0, 0, 0, 0⟩)
section
variable {P : Program} {w : World} {K : PySem.W.Frag} {mg : Str → Option Value} {base : Heap} {f : Addr} {fd : FuncData}
noncomputable abbrev s_are_too_many : Stmt := top 2
theorem sc_are_too_many : FnScope ["n"] ["n"] (defScope s_are_too_many) := ⟨rfl, rfl, rfl, by decide +kernel, rfl, by decide +kernel, by decide +kernel⟩
theorem ok_are_too_many {kk : Nat} (F : Fun K "are_too_many" "are_too_many" s_are_too_many f fd) {t_MOST_THINGS : Tok} (c_MOST_THINGS : mg "MOST_THINGS" = some (.int 9 t_MOST_THINGS)) : FnOk P w K mg base CX0 (kk + 1) f fd ["n"] (sp4 K LL.f_are_too_many) := by
  refine fun4 F sc_are_too_many rfl rfl (fun cdv A outer s H E hr => ?_)
  have nd := sc_are_too_many.nd
  exact (last4 (ret4 (gt4 (x4 0) (c4 c_MOST_THINGS))))
noncomputable abbrev s_is_thing : Stmt := top 5
theorem sc_is_thing : FnScope ["number", "n"] ["number", "n"] (defScope s_is_thing) := ⟨rfl, rfl, rfl, by decide +kernel, rfl, by decide +kernel, by decide +kernel⟩
theorem ok_is_thing {kk : Nat} (F : Fun K "is_thing" "is_thing" s_is_thing f fd) : FnOk P w K mg base CX0 (kk + 1) f fd ["number", "n"] (sp4 K LL.f_is_thing) := by
  refine fun4 F sc_is_thing rfl rfl (fun cdv A outer s H E hr => ?_)
  have nd := sc_is_thing.nd
  exact (last4 (ret4 (chain4 op_le op_lt o4_le o4_lt i4 (x4 0) (x4 1))))
noncomputable abbrev s_is_rising : Stmt := top 6
theorem sc_is_rising : FnScope ["things", "n", "place", "thing"] ["things", "n"] (defScope s_is_rising) := ⟨rfl, rfl, rfl, by decide +kernel, rfl, by decide +kernel, by decide +kernel⟩
theorem ok_is_rising {kk : Nat} {g1 : Addr} {d1 : FuncData} (F : Fun K "is_rising" "is_rising" s_is_rising f fd) (F_is_thing : FnOk P w K mg base CX0 kk g1 d1 ["number", "n"] (sp4 K LL.f_is_thing)) (m_is_thing : mg "is_thing" = some (.ref g1)) (k_is_thing : PySem.W.keepIn K (.ref g1) = true) (b_is_thing : Binds K d1 ["number", "n"] []) (m_enumerate : mg "enumerate" = none) : FnOk P w K mg base CX0 (kk + 1) f fd ["things", "n"] (sp4 K LL.f_is_rising) := by
  refine fun4 F sc_is_rising rfl rfl (fun cdv A outer s H E hr => ?_)
  have nd := sc_is_rising.nd
  exact (seq4 (for4 rfl PassesOwn.never (enumerate4 m_enumerate (cons4 (x4 0) nil4)) (pair4 (i := 2) (j := 3) rfl nd)
      (seq4 (ifS4 (notT4 (val4 (call4 F_is_thing hr m_is_thing k_is_thing b_is_thing (cons4 (x4 3) (cons4 (x4 1) nil4)))))
        (last4 (ret4 b4))
        end4)
      (last4 (ifS4 (PW4.pt (andT4 (gtT4 (x4 2) i4) (and14 (geT4 (ix4 (x4 0) (sub4 (x4 2) i4)) (x4 3)))))
        (last4 (ret4 b4))
        end4))))
    (last4 (ret4 b4)))
noncomputable abbrev s_has_all_below : Stmt := top 7
theorem sc_has_all_below : FnScope ["rows", "row", "thing"] ["rows", "row"] (defScope s_has_all_below) := ⟨rfl, rfl, rfl, by decide +kernel, rfl, by decide +kernel, by decide +kernel⟩
theorem ok_has_all_below {kk : Nat} (F : Fun K "has_all_below" "has_all_below" s_has_all_below f fd) (m_all : mg "all" = none) : FnOk P w K mg base CX0 (kk + 1) f fd ["rows", "row"] (sp4 K LL.f_has_all_below) := by
  refine fun4 F sc_has_all_below rfl rfl (fun cdv A outer s H E hr => ?_)
  have nd := sc_has_all_below.nd
  exact (seq4 (for4 rfl PassesOwn.never (walk4 (x4 1)) (name4 (i := 2) nd)
      (last4 (ifS4 (notT4 (val4 (all4 rfl m_all (cons4 (PF4.pe (comp4 (ls := ["lower"]) (fs := ["row"]) (fr := [1]) rfl (walk4 (ix4 (x4 0) (x4 2))) (fun _ _ _ _ _ _ nd => bname4 (i := 0) nd (by decide)) (fun _ _ _ _ _ _ => noif4) (fun _ _ _ _ _ _ => (in4 (x4 0) (x4 1))))) nil4))))
        (last4 (ret4 b4))
        end4)))
    (last4 (ret4 b4)))
noncomputable abbrev s_is_row : Stmt := top 4
theorem sc_is_row : FnScope ["rows", "b", "row"] ["rows", "b"] (defScope s_is_row) := ⟨rfl, rfl, rfl, by decide +kernel, rfl, by decide +kernel, by decide +kernel⟩
theorem ok_is_row {kk : Nat} {g1 g2 : Addr} {d1 d2 : FuncData} (F : Fun K "is_row" "is_row" s_is_row f fd) (F_has_all_below : FnOk P w K mg base CX0 kk g1 d1 ["rows", "row"] (sp4 K LL.f_has_all_below)) (m_has_all_below : mg "has_all_below" = some (.ref g1)) (k_has_all_below : PySem.W.keepIn K (.ref g1) = true) (b_has_all_below : Binds K d1 ["rows", "row"] []) (F_is_rising : FnOk P w K mg base CX0 kk g2 d2 ["things", "n"] (sp4 K LL.f_is_rising)) (m_is_rising : mg "is_rising" = some (.ref g2)) (k_is_rising : PySem.W.keepIn K (.ref g2) = true) (b_is_rising : Binds K d2 ["things", "n"] []) (m_len : mg "len" = none) : FnOk P w K mg base CX0 (kk + 1) f fd ["rows", "b"] (sp4 K LL.f_is_row) := by
  refine fun4 F sc_is_row rfl rfl (fun cdv A outer s H E hr => ?_)
  have nd := sc_is_row.nd
  exact (seq4 (set4 (i := 2) nd (ix4 (x4 0) (x4 1)))
    (last4 (ret4 (and4 (call4 F_is_rising hr m_is_rising k_is_rising b_is_rising (cons4 (x4 2) (cons4 (len4 m_len (cons4 (x4 0) nil4)) nil4))) (and4 (nin4 (x4 1) (x4 2)) (one4 (call4 F_has_all_below hr m_has_all_below k_has_all_below b_has_all_below (cons4 (x4 0) (cons4 (x4 2) nil4)))))))))
noncomputable abbrev s_is_order : Stmt := top 3
theorem sc_is_order : FnScope ["rows"] ["rows"] (defScope s_is_order) := ⟨rfl, rfl, rfl, by decide +kernel, rfl, by decide +kernel, by decide +kernel⟩
theorem ok_is_order {kk : Nat} {g1 g2 : Addr} {d1 d2 : FuncData} (F : Fun K "is_order" "is_order" s_is_order f fd) (F_is_row : FnOk P w K mg base CX0 kk g1 d1 ["rows", "b"] (sp4 K LL.f_is_row)) (m_is_row : mg "is_row" = some (.ref g1)) (k_is_row : PySem.W.keepIn K (.ref g1) = true) (b_is_row : Binds K d1 ["rows", "b"] []) (F_are_too_many : FnOk P w K mg base CX0 kk g2 d2 ["n"] (sp4 K LL.f_are_too_many)) (m_are_too_many : mg "are_too_many" = some (.ref g2)) (k_are_too_many : PySem.W.keepIn K (.ref g2) = true) (b_are_too_many : Binds K d2 ["n"] []) (m_len : mg "len" = none) (m_range : mg "range" = none) (m_all : mg "all" = none) : FnOk P w K mg base CX0 (kk + 1) f fd ["rows"] (sp4 K LL.f_is_order) := by
  refine fun4 F sc_is_order rfl rfl (fun cdv A outer s H E hr => ?_)
  have nd := sc_is_order.nd
  exact (seq4 (ifS4 (val4 (call4 F_are_too_many hr m_are_too_many k_are_too_many b_are_too_many (cons4 (len4 m_len (cons4 (x4 0) nil4)) nil4)))
      (last4 (ret4 b4))
      end4)
    (last4 (ret4 (all4 rfl m_all (cons4 (PF4.pe (comp4 (ls := ["thing"]) (fs := ["rows"]) (fr := [0]) rfl (range14 m_range (len4 m_len (cons4 (x4 0) nil4))) (fun _ _ _ _ _ _ nd => bname4 (i := 0) nd (by decide)) (fun _ _ _ _ _ _ => noif4) (fun _ _ _ _ _ _ => (call4 F_is_row hr m_is_row k_is_row b_is_row (cons4 (x4 1) (cons4 (x4 0) nil4)))))) nil4)))))
noncomputable abbrev s_l_cell : Stmt := top 9
theorem sc_l_cell : FnScope ["_law_script", "_law_k"] ["_law_script", "_law_k"] (defScope s_l_cell) := ⟨rfl, rfl, rfl, by decide +kernel, rfl, by decide +kernel, by decide +kernel⟩
theorem ok_l_cell {kk : Nat} (F : Fun K "_law_cell" "_law_cell" s_l_cell f fd) (m_len : mg "len" = none) : FnOk P w K mg base CX0 (kk + 1) f fd ["_law_script", "_law_k"] (sp4 K LL.f_l_cell) := by
  refine fun4 F sc_l_cell rfl rfl (fun cdv A outer s H E hr => ?_)
  have nd := sc_l_cell.nd
  exact (seq4 (ifS4 (eqT4 (len4 m_len (cons4 (x4 0) nil4)) i4)
      (last4 (ret4 i4))
      end4)
    (last4 (ret4 (ix4 (x4 0) (mod4 (x4 1) (len4 m_len (cons4 (x4 0) nil4)))))))
noncomputable abbrev s_l_mixed : Stmt := top 10
theorem sc_l_mixed : FnScope ["_law_cell_here", "_law_k", "_law_salt", "_law_one", "_law_two"] ["_law_cell_here", "_law_k", "_law_salt"] (defScope s_l_mixed) := ⟨rfl, rfl, rfl, by decide +kernel, rfl, by decide +kernel, by decide +kernel⟩
theorem ok_l_mixed {kk : Nat} (F : Fun K "_law_mixed" "_law_mixed" s_l_mixed f fd) : FnOk P w K mg base CX0 (kk + 1) f fd ["_law_cell_here", "_law_k", "_law_salt"] (sp4 K LL.f_l_mixed) := by
  refine fun4 F sc_l_mixed rfl rfl (fun cdv A outer s H E hr => ?_)
  have nd := sc_l_mixed.nd
  exact (seq4 (set4 (i := 3) nd (mod4 (mul4 (add4 (add4 (add4 (x4 0) (mul4 (mul4 i4 (x4 1)) (x4 1))) (mul4 i4 (x4 1))) (x4 2)) i4) i4))
    (seq4 (set4 (i := 4) nd (mod4 (add4 (add4 (mul4 (x4 3) (add4 (div4 (x4 3) i4) i4)) (mul4 i4 (x4 1))) (x4 2)) i4))
    (last4 (ret4 (mod4 (mul4 (x4 4) i4) i4)))))
noncomputable abbrev s_l_draws : Stmt := top 11
theorem sc_l_draws : FnScope ["_law_cell_here", "_law_many", "_law_salt", "_law_found", "_law_left", "_law_k"] ["_law_cell_here", "_law_many", "_law_salt"] (defScope s_l_draws) := ⟨rfl, rfl, rfl, by decide +kernel, rfl, by decide +kernel, by decide +kernel⟩
theorem ok_l_draws {kk : Nat} {g1 : Addr} {d1 : FuncData} (F : Fun K "_law_draws" "_law_draws" s_l_draws f fd) (F_l_mixed : FnOk P w K mg base CX0 kk g1 d1 ["_law_cell_here", "_law_k", "_law_salt"] (sp4 K LL.f_l_mixed)) (m_l_mixed : mg "_law_mixed" = some (.ref g1)) (k_l_mixed : PySem.W.keepIn K (.ref g1) = true) (b_l_mixed : Binds K d1 ["_law_cell_here", "_law_k", "_law_salt"] []) (m_range : mg "range" = none) : FnOk P w K mg base CX0 (kk + 1) f fd ["_law_cell_here", "_law_many", "_law_salt"] (sp4 K LL.f_l_draws) := by
  refine fun4 F sc_l_draws rfl rfl (fun cdv A outer s H E hr => ?_)
  have nd := sc_l_draws.nd
  exact (seq4 (own4 (i := 3) nd (lst4 nil4))
    (seq4 (set4 (i := 4) nd i4)
    (seq4 (ifS4 (geT4 (x4 0) (pow4 i4 i4))
      (last4 (set4 (i := 4) nd (x4 0)))
      end4)
    (seq4 (for4 rfl PassesOwn.never (range14 m_range (x4 1)) (name4 (i := 5) nd)
      (last4 (ifS4 (gtT4 (x4 4) i4)
        (seq4 (expr4 (app4 (i := 3) (pxr4 (mod4 (x4 4) i4))))
        (last4 (set4 (i := 4) nd (div4 (x4 4) i4))))
        (last4 (expr4 (app4 (i := 3) (pxr4 (call4 F_l_mixed hr m_l_mixed k_l_mixed b_l_mixed (cons4 (x4 0) (cons4 (x4 5) (cons4 (x4 2) nil4)))))))))))
    (last4 (ret4 (x4 3)))))))
noncomputable abbrev s_l_same : Stmt := top 12
theorem sc_l_same : FnScope ["_law_found", "_law_due"] ["_law_found", "_law_due"] (defScope s_l_same) := ⟨rfl, rfl, rfl, by decide +kernel, rfl, by decide +kernel, by decide +kernel⟩
theorem ok_l_same {kk : Nat} (F : Fun K "_law_same" "_law_same" s_l_same f fd) (m_l_same : mg "_law_same" = some (.ref f)) (k_l_same : PySem.W.keepIn K (.ref f) = true) (b_l_same : Binds K fd ["_law_found", "_law_due"] []) (m_isinstance : mg "isinstance" = none) (m_str : mg "str" = none) (m_int : mg "int" = none) (m_bool : mg "bool" = none) (m_tuple : mg "tuple" = none) (m_len : mg "len" = none) (m_range : mg "range" = none) (m_all : mg "all" = none) : ∀ n : Nat, FnOk P w K mg base CX0 (kk + n) f fd ["_law_found", "_law_due"] (sp4 K (LL.f_l_same n))
  | 0 => none4
  | n + 1 => by
    have F_l_same := ok_l_same (kk := kk) F m_l_same k_l_same b_l_same m_isinstance m_str m_int m_bool m_tuple m_len m_range m_all n
    refine fun4 F sc_l_same rfl rfl (fun cdv A outer s H E hr => ?_)
    have nd := sc_l_same.nd
    exact (seq4 (ifS4 (val4 (isi4 Ty4.t m_isinstance m_tuple PyProof.Rows.boot_tuple (x4 1)))
      (seq4 (ifS4 (PW4.pt (orT4 (notT4 (val4 (isi4 Ty4.t m_isinstance m_tuple PyProof.Rows.boot_tuple (x4 0)))) (or14 (neT4 (len4 m_len (cons4 (x4 0) nil4)) (len4 m_len (cons4 (x4 1) nil4))))))
        (last4 (ret4 b4))
        end4)
      (last4 (ret4 (all4 rfl m_all (cons4 (PF4.pe (comp4 (ls := ["_law_k"]) (fs := ["_law_found", "_law_due"]) (fr := [0, 1]) rfl (range14 m_range (len4 m_len (cons4 (x4 1) nil4))) (fun _ _ _ _ _ _ nd => bname4 (i := 0) nd (by decide)) (fun _ _ _ _ _ _ => noif4) (fun _ _ _ _ _ _ => (call4 F_l_same hr m_l_same k_l_same b_l_same (cons4 (ix4 (x4 1) (x4 0)) (cons4 (ix4 (x4 2) (x4 0)) nil4)))))) nil4)))))
      end4)
    (seq4 (ifS4 (isT4 (x4 1) n4)
      (last4 (ret4 (is4 (x4 0) n4)))
      end4)
    (seq4 (ifS4 (val4 (isi4 Ty4.b m_isinstance m_bool PyProof.Rows.boot_bool (x4 1)))
      (last4 (ret4 (and4 (isi4 Ty4.b m_isinstance m_bool PyProof.Rows.boot_bool (x4 0)) (one4 (eq4 (x4 0) (x4 1))))))
      end4)
    (seq4 (ifS4 (val4 (isi4 Ty4.i m_isinstance m_int PyProof.Rows.boot_int (x4 1)))
      (last4 (ret4 (and4 (isi4 Ty4.i m_isinstance m_int PyProof.Rows.boot_int (x4 0)) (and4 (not4 (isi4 Ty4.b m_isinstance m_bool PyProof.Rows.boot_bool (x4 0))) (one4 (eq4 (x4 0) (x4 1)))))))
      end4)
    (last4 (ret4 (and4 (isi4 Ty4.s m_isinstance m_str PyProof.Rows.boot_str (x4 0)) (one4 (eq4 (x4 0) (x4 1))))))))))
noncomputable abbrev s_l_order : Stmt := top 13
theorem sc_l_order : FnScope ["_law_draws_here", "_law_n", "_law_thick", "_law_rest", "_law_word", "_law_k", "_law_low", "_law_at", "_law_j", "_law_under", "_law_i"] ["_law_draws_here", "_law_n", "_law_thick"] (defScope s_l_order) := ⟨rfl, rfl, rfl, by decide +kernel, rfl, by decide +kernel, by decide +kernel⟩
theorem ok_l_order {kk : Nat} (F : Fun K "_law_order" "_law_order" s_l_order f fd) (m_range : mg "range" = none) (m_sorted : mg "sorted" = none) (m_tuple : mg "tuple" = none) (m_len : mg "len" = none) (m_list : mg "list" = none) : FnOk P w K mg base CX0 (kk + 1) f fd ["_law_draws_here", "_law_n", "_law_thick"] (sp4 K LL.f_l_order) := by
  refine fun4 F sc_l_order rfl rfl (fun cdv A outer s H E hr => ?_)
  have nd := sc_l_order.nd
  have hu : (A.deeper (PyProof.Rows.envOfC "_law_order" (defScope s_l_order) s.heap.objs.size f cdv)).units + 1 < cLine := by have := hr.un; omega
  exact (seq4 (own4 (i := 3) nd (listRange4 rfl m_list m_range (cons4 (x4 1) nil4)))
    (seq4 (own4 (i := 4) nd (lst4 nil4))
    (seq4 (for4 rfl PassesOwn.never (range14 m_range (x4 1)) (name4 (i := 5) nd)
      (last4 (expr4 (app4 (i := 4) (pop4 (i := 3) (px4 (mod4 (ix4 (x4 0) (x4 5)) (len4 m_len (cons4 (x4 3) nil4)))))))))
    (seq4 (ownDict4 (i := 6) nd)
    (seq4 (set4 (i := 7) nd (x4 1))
    (seq4 (for4 rfl PassesOwn.never (range14 m_range (x4 1)) (name4 (i := 8) nd)
      (seq4 (set4 (i := 9) nd (PF4.pe (lst4 nil4)))
      (seq4 (for4 rfl PassesOwn.never (range14 m_range (x4 8)) (name4 (i := 10) nd)
        (seq4 (ifS4 (ltT4 (mod4 (ix4 (x4 0) (x4 7)) i4) (x4 2))
          (last4 (setF4 (i := 9) nd (catN4 (x4 9) (PF4.pe (comp4 (ls := ["_law_a"]) (fs := ["_law_under"]) (fr := [9]) rfl (walk4 (add4 (ixD4 hu (x4 6) (ix4 (x4 4) (x4 10))) (PF4.pe (lst4 (cons4 (ix4 (x4 4) (x4 10)) nil4))))) (fun _ _ _ _ _ _ nd => bname4 (i := 0) nd (by decide)) (fun _ _ _ _ _ _ => oneif4 (ninT4 (x4 0) (x4 1))) (fun _ _ _ _ _ _ => (x4 0)))))))
          end4)
        (last4 (set4 (i := 7) nd (add4 (x4 7) i4)))))
      (last4 (putN4 (i := 6) hu (pxr4 (x4 9)) (ix4 (x4 4) (x4 8)))))))
    (last4 (ret4 (tuple4 m_tuple (cons4 (PF4.pe (comp4 (ls := ["_law_b"]) (fs := ["_law_low"]) (fr := [6]) rfl (range14 m_range (x4 1)) (fun _ _ _ _ _ _ nd => bname4 (i := 0) nd (by decide)) (fun _ _ _ _ _ _ => noif4) (fun _ _ _ _ _ _ => (tuple4 m_tuple (cons4 (PF4.pe (sorted4 m_sorted (cons4 (ixD4 hu (x4 1) (x4 0)) nil4))) nil4))))) nil4))))))))))
noncomputable abbrev s_l_drawn : Stmt := top 14
theorem sc_l_drawn : FnScope ["_law_script", "_law_k", "_law_most", "_law_salt", "_law_head", "_law_n", "_law_draws_here"] ["_law_script", "_law_k", "_law_most", "_law_salt"] (defScope s_l_drawn) := ⟨rfl, rfl, rfl, by decide +kernel, rfl, by decide +kernel, by decide +kernel⟩
theorem ok_l_drawn {kk : Nat} {g1 g2 g3 : Addr} {d1 d2 d3 : FuncData} (F : Fun K "_law_drawn" "_law_drawn" s_l_drawn f fd) (F_l_order : FnOk P w K mg base CX0 kk g1 d1 ["_law_draws_here", "_law_n", "_law_thick"] (sp4 K LL.f_l_order)) (m_l_order : mg "_law_order" = some (.ref g1)) (k_l_order : PySem.W.keepIn K (.ref g1) = true) (b_l_order : Binds K d1 ["_law_draws_here", "_law_n", "_law_thick"] []) (F_l_draws : FnOk P w K mg base CX0 kk g2 d2 ["_law_cell_here", "_law_many", "_law_salt"] (sp4 K LL.f_l_draws)) (m_l_draws : mg "_law_draws" = some (.ref g2)) (k_l_draws : PySem.W.keepIn K (.ref g2) = true) (b_l_draws : Binds K d2 ["_law_cell_here", "_law_many", "_law_salt"] []) (F_l_cell : FnOk P w K mg base CX0 kk g3 d3 ["_law_script", "_law_k"] (sp4 K LL.f_l_cell)) (m_l_cell : mg "_law_cell" = some (.ref g3)) (k_l_cell : PySem.W.keepIn K (.ref g3) = true) (b_l_cell : Binds K d3 ["_law_script", "_law_k"] []) : FnOk P w K mg base CX0 (kk + 1) f fd ["_law_script", "_law_k", "_law_most", "_law_salt"] (sp4 K LL.f_l_drawn) := by
  refine fun4 F sc_l_drawn rfl rfl (fun cdv A outer s H E hr => ?_)
  have nd := sc_l_drawn.nd
  exact (seq4 (set4 (i := 4) nd (call4 F_l_draws hr m_l_draws k_l_draws b_l_draws (cons4 (call4 F_l_cell hr m_l_cell k_l_cell b_l_cell (cons4 (x4 0) (cons4 (x4 1) nil4))) (cons4 i4 (cons4 (x4 3) nil4)))))
    (seq4 (set4 (i := 5) nd (mod4 (ix4 (x4 4) i4) (add4 (x4 2) i4)))
    (seq4 (set4 (i := 6) nd (call4 F_l_draws hr m_l_draws k_l_draws b_l_draws (cons4 (call4 F_l_cell hr m_l_cell k_l_cell b_l_cell (cons4 (x4 0) (cons4 (add4 (x4 1) i4) nil4))) (cons4 (add4 (x4 5) (div4 (mul4 (x4 5) (sub4 (x4 5) i4)) i4)) (cons4 (add4 (x4 3) i4) nil4)))))
    (last4 (ret4 (call4 F_l_order hr m_l_order k_l_order b_l_order (cons4 (x4 6) (cons4 (x4 5) (cons4 (ix4 (PF4.pe (lst4 (cons4 i4 (cons4 i4 (cons4 i4 (cons4 i4 (cons4 i4 (cons4 i4 (cons4 i4 (cons4 i4 nil4)))))))))) (mod4 (ix4 (x4 4) i4) i4)) nil4)))))))))
noncomputable abbrev s_l_free : Stmt := top 15
theorem sc_l_free : FnScope ["_law_draws_here", "_law_found", "_law_b", "_law_row"] ["_law_draws_here"] (defScope s_l_free) := ⟨rfl, rfl, rfl, by decide +kernel, rfl, by decide +kernel, by decide +kernel⟩
theorem ok_l_free {kk : Nat} (F : Fun K "_law_free" "_law_free" s_l_free f fd) (m_tuple : mg "tuple" = none) (m_range : mg "range" = none) : FnOk P w K mg base CX0 (kk + 1) f fd ["_law_draws_here"] (sp4 K f_l_free) := by
  refine fun4 F sc_l_free rfl rfl (fun cdv A outer s H E hr => ?_)
  have nd := sc_l_free.nd
  exact (seq4 (own4 (i := 1) nd (lst4 nil4))
    (seq4 (for4 rfl PassesOwn.never (range14 m_range (mod4 (ix4 (x4 0) i4) i4)) (name4 (i := 2) nd)
      (seq4 (set4 (i := 3) nd (sl4 (x4 0) (po4 (add4 (mul4 i4 (x4 2)) i4)) (po4 (add4 (add4 (mul4 i4 (x4 2)) i4) (mod4 (ix4 (x4 0) (add4 i4 (x4 2))) i4)))))
      (last4 (expr4 (app4 (i := 1) (pxr4 (tuple4 m_tuple (cons4 (PF4.pe (comp4 (ls := ["_law_number"]) (fs := []) (fr := []) rfl (walk4 (x4 3)) (fun _ _ _ _ _ _ nd => bname4 (i := 0) nd (by decide)) (fun _ _ _ _ _ _ => noif4) (fun _ _ _ _ _ _ => (sub4 (mod4 (x4 0) i4) i4)))) nil4))))))))
    (last4 (ret4 (tuple4 m_tuple (cons4 (x4 1) nil4))))))
noncomputable abbrev s_l_changed : Stmt := top 16
theorem sc_l_changed : FnScope ["_law_order_here", "_law_draws_here", "_law_n", "_law_rows_here", "_law_b", "_law_c", "_law_put", "_law_at"] ["_law_order_here", "_law_draws_here"] (defScope s_l_changed) := ⟨rfl, rfl, rfl, by decide +kernel, rfl, by decide +kernel, by decide +kernel⟩
theorem ok_l_changed {kk : Nat} (F : Fun K "_law_changed" "_law_changed" s_l_changed f fd) (m_tuple : mg "tuple" = none) (m_list : mg "list" = none) (m_range : mg "range" = none) (m_len : mg "len" = none) (m_sorted : mg "sorted" = none) : FnOk P w K mg base CX0 (kk + 1) f fd ["_law_order_here", "_law_draws_here"] (sp4 K f_l_changed) := by
  refine fun4N F sc_l_changed rfl rfl (fun cdv A outer s H E hr => ?_)
  have nd := sc_l_changed.nd
  exact (seqN (ofN (set4 (i := 2) nd (len4 m_len (cons4 (x4 0) nil4))))
    (seqN (ofN (rows4 (i := 3) (ls := ["_law_row"]) (fs := []) (fr := []) nd rfl (walk4 (x4 0)) (fun _ _ _ _ _ _ nd => bname4 (i := 0) nd (by decide)) (fun _ _ _ _ _ _ => list4 m_list (cons4 (x4 0) nil4))))
    (seqN (ifN (eqT4 (mod4 (ix4 (x4 1) i4) i4) i4)
      (lastN (ofN (castS4 3 (frzS4 3 (own4 (i := 3) nd (slL4 (x4 3) no4 (po4 (sub4 (x4 2) i4))))))))
      (lastN (ifN (PW4.pt (orT4 (eqT4 (mod4 (ix4 (x4 1) i4) i4) i4) (or14 (eqT4 (x4 2) i4))))
        (lastN (ofN (castS4 3 (expr4 (app4 (i := 3) (pxr4 (ix4 (PF4.pe (lst4 (cons4 (PF4.pe (lst4 nil4)) (cons4 (PF4.pe (listRange4 rfl m_list m_range (cons4 (x4 2) nil4))) nil4)))) (mod4 (ix4 (x4 1) i4) i4))))))))
        (seqN (ofN (set4 (i := 4) nd (mod4 (ix4 (x4 1) i4) (x4 2))))
        (seqN (ofN (set4 (i := 5) nd (mod4 (ix4 (x4 1) i4) (x4 2))))
        (seqN (ofN (set4 (i := 6) nd (PF4.pe (lst4 (cons4 (neg4 i4) (cons4 (x4 2) (cons4 (sub4 (powG4 (pow4 i4 i4) i4) i4) (cons4 (x4 4) (cons4 (x4 5) (cons4 (mod4 (ix4 (x4 1) i4) (x4 2)) nil4))))))))))
        (lastN (ifN (eqT4 (mod4 (ix4 (x4 1) i4) i4) i4)
          (lastN (ofN (castS4 3 (put4 (i := 3) (pxl4 (revB4 (ix4 (x4 3) (x4 4)) (neg4 i4))) (x4 4)))))
          (lastN (ifN (eqT4 (mod4 (ix4 (x4 1) i4) i4) i4)
            (lastN (ofN (castS4 3 (put4 (i := 3) (pxl4 (catN4 (ix4 (x4 3) (x4 4)) (sl4 (ix4 (x4 3) (x4 4)) (po4 (mod4 (ix4 (x4 1) i4) i4)) no4))) (x4 4)))))
            (lastN (ifN (eqT4 (mod4 (ix4 (x4 1) i4) i4) i4)
              (seqN (ofN (castS4 3 (setX4 (i := 7) nd (px4 (mod4 (ix4 (x4 1) i4) (add4 (len4 m_len (cons4 (ix4 (x4 3) (x4 4)) nil4)) i4))))))
              (lastN (ofN (castS4 3 (put4 (i := 3) (pxl4 (catN4 (sl4 (ix4 (x4 3) (x4 4)) no4 (po4 (x4 7))) (sl4 (ix4 (x4 3) (x4 4)) (po4 (add4 (x4 7) i4)) no4))) (x4 4))))))
              (lastN (ifN (eqT4 (mod4 (ix4 (x4 1) i4) i4) i4)
                (seqN (ofN (castS4 3 (put4 (i := 3) (pxl4 (sorted4 m_sorted (cons4 (add4 (ix4 (x4 3) (x4 4)) (PF4.pe (lst4 (cons4 (x4 5) nil4)))) nil4))) (x4 4))))
                (lastN (ofN (castS4 3 (put4 (i := 3) (pxl4 (sorted4 m_sorted (cons4 (add4 (ix4 (x4 3) (x4 5)) (PF4.pe (lst4 (cons4 (x4 4) nil4)))) nil4))) (x4 5))))))
                (lastN (ifN (eqT4 (mod4 (ix4 (x4 1) i4) i4) i4)
                  (lastN (rowIns4 (i := 3) (x4 4) (mod4 (div4 (ix4 (x4 1) i4) i4) (add4 (len4 m_len (cons4 (ix4 (x4 3) (x4 4)) nil4)) i4)) (ix4 (x4 6) (sub4 (mod4 (ix4 (x4 1) i4) i4) i4))))
                  (lastN (ofN (castS4 3 (put4 (i := 3) (pxl4 (sorted4 m_sorted (cons4 (add4 (ix4 (x4 3) (x4 4)) (PF4.pe (lst4 (cons4 (ix4 (x4 6) (sub4 (mod4 (ix4 (x4 1) i4) i4) i4)) nil4)))) nil4))) (x4 4)))))))))))))))))))))
    (lastN (ofN (castS4 3 (ret4 (tuple4 m_tuple (cons4 (PF4.pe (comp4 (ls := ["_law_row"]) (fs := []) (fr := []) rfl (walk4 (x4 3)) (fun _ _ _ _ _ _ nd => bname4 (i := 0) nd (by decide)) (fun _ _ _ _ _ _ => noif4) (fun _ _ _ _ _ _ => (tuple4 m_tuple (cons4 (x4 0) nil4))))) nil4)))))))))
noncomputable abbrev s_l_long : Stmt := top 17
theorem sc_l_long : FnScope ["_law_order_here", "_law_draws_here", "_law_many", "_law_at"] ["_law_order_here", "_law_draws_here"] (defScope s_l_long) := ⟨rfl, rfl, rfl, by decide +kernel, rfl, by decide +kernel, by decide +kernel⟩
theorem ok_l_long {kk : Nat} (F : Fun K "_law_long" "_law_long" s_l_long f fd) (m_tuple : mg "tuple" = none) (m_range : mg "range" = none) (m_len : mg "len" = none) : FnOk P w K mg base CX0 (kk + 1) f fd ["_law_order_here", "_law_draws_here"] (sp4 K f_l_long) := by
  refine fun4 F sc_l_long rfl rfl (fun cdv A outer s H E hr => ?_)
  have nd := sc_l_long.nd
  exact (seq4 (set4 (i := 2) nd (add4 i4 (mod4 (add4 (mul4 i4 (ix4 (x4 1) i4)) (ix4 (x4 1) i4)) i4)))
    (seq4 (ifS4 (PW4.pt (orT4 (eqT4 (mod4 (ix4 (x4 1) i4) i4) i4) (or14 (eqT4 (len4 m_len (cons4 (x4 0) nil4)) i4))))
      (last4 (ret4 (add4 (x4 0) (repT4 (tup4 (cons4 (tup4 nil4) nil4)) (sub4 (x4 2) (len4 m_len (cons4 (x4 0) nil4)))))))
      end4)
    (seq4 (set4 (i := 3) nd (mod4 (ix4 (x4 1) i4) (len4 m_len (cons4 (x4 0) nil4))))
    (last4 (ret4 (add4 (add4 (sl4 (x4 0) no4 (po4 (x4 3))) (tup4 (cons4 (tupleRange4 rfl m_tuple m_range (x4 2)) nil4))) (sl4 (x4 0) (po4 (add4 (x4 3) i4)) no4)))))))
noncomputable abbrev s_l_rows : Stmt := top 18
theorem sc_l_rows : FnScope ["_law_script", "_law_k", "_law_salt", "_law_head", "_law_order_here"] ["_law_script", "_law_k", "_law_salt"] (defScope s_l_rows) := ⟨rfl, rfl, rfl, by decide +kernel, rfl, by decide +kernel, by decide +kernel⟩
theorem ok_l_rows {kk : Nat} {g1 g2 g3 g4 g5 g6 : Addr} {d1 d2 d3 d4 d5 d6 : FuncData} (F : Fun K "_law_rows" "_law_rows" s_l_rows f fd) (F_l_changed : FnOk P w K mg base CX0 kk g1 d1 ["_law_order_here", "_law_draws_here"] (sp4 K f_l_changed)) (m_l_changed : mg "_law_changed" = some (.ref g1)) (k_l_changed : PySem.W.keepIn K (.ref g1) = true) (b_l_changed : Binds K d1 ["_law_order_here", "_law_draws_here"] []) (F_l_long : FnOk P w K mg base CX0 kk g2 d2 ["_law_order_here", "_law_draws_here"] (sp4 K f_l_long)) (m_l_long : mg "_law_long" = some (.ref g2)) (k_l_long : PySem.W.keepIn K (.ref g2) = true) (b_l_long : Binds K d2 ["_law_order_here", "_law_draws_here"] []) (F_l_drawn : FnOk P w K mg base CX0 kk g3 d3 ["_law_script", "_law_k", "_law_most", "_law_salt"] (sp4 K LL.f_l_drawn)) (m_l_drawn : mg "_law_drawn" = some (.ref g3)) (k_l_drawn : PySem.W.keepIn K (.ref g3) = true) (b_l_drawn : Binds K d3 ["_law_script", "_law_k", "_law_most", "_law_salt"] []) (F_l_free : FnOk P w K mg base CX0 kk g4 d4 ["_law_draws_here"] (sp4 K f_l_free)) (m_l_free : mg "_law_free" = some (.ref g4)) (k_l_free : PySem.W.keepIn K (.ref g4) = true) (b_l_free : Binds K d4 ["_law_draws_here"] []) (F_l_draws : FnOk P w K mg base CX0 kk g5 d5 ["_law_cell_here", "_law_many", "_law_salt"] (sp4 K LL.f_l_draws)) (m_l_draws : mg "_law_draws" = some (.ref g5)) (k_l_draws : PySem.W.keepIn K (.ref g5) = true) (b_l_draws : Binds K d5 ["_law_cell_here", "_law_many", "_law_salt"] []) (F_l_cell : FnOk P w K mg base CX0 kk g6 d6 ["_law_script", "_law_k"] (sp4 K LL.f_l_cell)) (m_l_cell : mg "_law_cell" = some (.ref g6)) (k_l_cell : PySem.W.keepIn K (.ref g6) = true) (b_l_cell : Binds K d6 ["_law_script", "_law_k"] []) : FnOk P w K mg base CX0 (kk + 1) f fd ["_law_script", "_law_k", "_law_salt"] (sp4 K f_l_rows) := by
  refine fun4 F sc_l_rows rfl rfl (fun cdv A outer s H E hr => ?_)
  have nd := sc_l_rows.nd
  exact (seq4 (set4 (i := 3) nd (call4 F_l_draws hr m_l_draws k_l_draws b_l_draws (cons4 (call4 F_l_cell hr m_l_cell k_l_cell b_l_cell (cons4 (x4 0) (cons4 (x4 1) nil4))) (cons4 i4 (cons4 (x4 2) nil4)))))
    (seq4 (ifS4 (eqT4 (mod4 (ix4 (x4 3) i4) i4) i4)
      (last4 (ret4 (call4 F_l_free hr m_l_free k_l_free b_l_free (cons4 (x4 3) nil4))))
      end4)
    (seq4 (set4 (i := 4) nd (call4 F_l_drawn hr m_l_drawn k_l_drawn b_l_drawn (cons4 (x4 0) (cons4 (add4 (x4 1) i4) (cons4 i4 (cons4 (add4 (x4 2) i4) nil4))))))
    (seq4 (ifS4 (eqT4 (mod4 (ix4 (x4 3) i4) i4) i4)
      (last4 (ret4 (x4 4)))
      end4)
    (seq4 (ifS4 (eqT4 (mod4 (ix4 (x4 3) i4) i4) i4)
      (last4 (ret4 (call4 F_l_long hr m_l_long k_l_long b_l_long (cons4 (x4 4) (cons4 (x4 3) nil4)))))
      end4)
    (last4 (ret4 (call4 F_l_changed hr m_l_changed k_l_changed b_l_changed (cons4 (x4 4) (cons4 (sl4 (x4 3) (po4 i4) (po4 i4)) nil4))))))))))
noncomputable abbrev s_l_is : Stmt := top 19
theorem sc_l_is : FnScope ["_law_rows_here", "_law_n", "_law_b", "_law_row", "_law_a"] ["_law_rows_here"] (defScope s_l_is) := ⟨rfl, rfl, rfl, by decide +kernel, rfl, by decide +kernel, by decide +kernel⟩
theorem ok_l_is {kk : Nat} (F : Fun K "_law_is" "_law_is" s_l_is f fd) (m_all : mg "all" = none) (m_range : mg "range" = none) (m_list : mg "list" = none) (m_len : mg "len" = none) : FnOk P w K mg base CX0 (kk + 1) f fd ["_law_rows_here"] (sp4 K f_l_is) := by
  refine fun4 F sc_l_is rfl rfl (fun cdv A outer s H E hr => ?_)
  have nd := sc_l_is.nd
  have hu : (A.deeper (PyProof.Rows.envOfC "_law_is" (defScope s_l_is) s.heap.objs.size f cdv)).units + 9 < cLine := by have := hr.un; omega
  exact (seq4 (set4 (i := 1) nd (len4 m_len (cons4 (x4 0) nil4)))
    (seq4 (ifS4 (gtT4 (x4 1) i4)
      (last4 (ret4 b4))
      end4)
    (seq4 (for4 rfl PassesOwn.never (range14 m_range (x4 1)) (name4 (i := 2) nd)
      (last4 (ifS4 (neLT4 hu (PF4.pe (list4 m_list (cons4 (ix4 (x4 0) (x4 2)) nil4))) (PF4.pe (comp4 (ls := ["_law_a"]) (fs := ["_law_b", "_law_rows_here"]) (fr := [2, 0]) rfl (range14 m_range (x4 1)) (fun _ _ _ _ _ _ nd => bname4 (i := 0) nd (by decide)) (fun _ _ _ _ _ _ => oneif4 (PW4.pt (andT4 (inT4 (x4 0) (ix4 (x4 2) (x4 1))) (and14 (neT4 (x4 0) (x4 1)))))) (fun _ _ _ _ _ _ => (x4 0)))))
        (last4 (ret4 b4))
        end4)))
    (seq4 (for4 rfl PassesOwn.never (walk4 (x4 0)) (name4 (i := 3) nd)
      (last4 (for4 rfl PassesOwn.never (walk4 (x4 3)) (name4 (i := 4) nd)
        (last4 (ifS4 (notT4 (val4 (all4 rfl m_all (cons4 (PF4.pe (comp4 (ls := ["_law_c"]) (fs := ["_law_row"]) (fr := [3]) rfl (walk4 (ix4 (x4 0) (x4 4))) (fun _ _ _ _ _ _ nd => bname4 (i := 0) nd (by decide)) (fun _ _ _ _ _ _ => noif4) (fun _ _ _ _ _ _ => (in4 (x4 0) (x4 1))))) nil4))))
          (last4 (ret4 b4))
          end4)))))
    (last4 (ret4 b4))))))
noncomputable abbrev s_law : Stmt := top 20
theorem sc_law : FnScope ["_law_script", "_law_one", "_law_other"] ["_law_script"] (defScope s_law) := ⟨rfl, rfl, rfl, by decide +kernel, rfl, by decide +kernel, by decide +kernel⟩
theorem ok_law {kk : Nat} {g1 g2 g3 g4 : Addr} {d1 d2 d3 d4 : FuncData} (F : Fun K "law" "law" s_law f fd) (F_l_same : FnOk P w K mg base CX0 kk g1 d1 ["_law_found", "_law_due"] (sp4 K (LL.f_l_same 6))) (m_l_same : mg "_law_same" = some (.ref g1)) (k_l_same : PySem.W.keepIn K (.ref g1) = true) (b_l_same : Binds K d1 ["_law_found", "_law_due"] []) (F_l_is : FnOk P w K mg base CX0 kk g2 d2 ["_law_rows_here"] (sp4 K f_l_is)) (m_l_is : mg "_law_is" = some (.ref g2)) (k_l_is : PySem.W.keepIn K (.ref g2) = true) (b_l_is : Binds K d2 ["_law_rows_here"] []) (F_is_order : FnOk P w K mg base CX0 kk g3 d3 ["rows"] (sp4 K LL.f_is_order)) (m_is_order : mg "is_order" = some (.ref g3)) (k_is_order : PySem.W.keepIn K (.ref g3) = true) (b_is_order : Binds K d3 ["rows"] []) (F_l_rows : FnOk P w K mg base CX0 kk g4 d4 ["_law_script", "_law_k", "_law_salt"] (sp4 K f_l_rows)) (m_l_rows : mg "_law_rows" = some (.ref g4)) (k_l_rows : PySem.W.keepIn K (.ref g4) = true) (b_l_rows : Binds K d4 ["_law_script", "_law_k", "_law_salt"] []) : FnOk P w K mg base CX0 (kk + 1) f fd ["_law_script"] (sp4 K f_law) := by
  refine fun4 F sc_law rfl rfl (fun cdv A outer s H E hr => ?_)
  have nd := sc_law.nd
  exact (seq4 (set4 (i := 1) nd (call4 F_l_rows hr m_l_rows k_l_rows b_l_rows (cons4 (x4 0) (cons4 i4 (cons4 i4 nil4)))))
    (seq4 (set4 (i := 2) nd (call4 F_l_rows hr m_l_rows k_l_rows b_l_rows (cons4 (x4 0) (cons4 i4 (cons4 i4 nil4)))))
    (seq4 (ifS4 (PW4.pt (orT4 (notT4 (val4 (call4 F_l_same hr m_l_same k_l_same b_l_same (cons4 (call4 F_is_order hr m_is_order k_is_order b_is_order (cons4 (x4 1) nil4)) (cons4 (call4 F_l_is hr m_l_is k_l_is b_l_is (cons4 (x4 1) nil4)) nil4))))) (or14 (notT4 (val4 (call4 F_l_same hr m_l_same k_l_same b_l_same (cons4 (call4 F_is_order hr m_is_order k_is_order b_is_order (cons4 (x4 2) nil4)) (cons4 (call4 F_l_is hr m_l_is k_l_is b_l_is (cons4 (x4 2) nil4)) nil4))))))))
      (last4 (ret4 b4))
      end4)
    (last4 (ret4 (call4 F_l_same hr m_l_same k_l_same b_l_same (cons4 (call4 F_is_order hr m_is_order k_is_order b_is_order (cons4 (x4 1) nil4)) (cons4 (call4 F_l_is hr m_l_is k_l_is b_l_is (cons4 (x4 1) nil4)) nil4))))))))
end
theorem len_is1 : ∀ (us : List Value), us.length = 1 → ∃ a0, us = [a0]
  | [a0], _ => ⟨a0, rfl⟩
theorem len_is2 : ∀ (us : List Value), us.length = 2 → ∃ a0 a1, us = [a0, a1]
  | [a0, a1], _ => ⟨a0, a1, rfl⟩
theorem len_is3 : ∀ (us : List Value), us.length = 3 → ∃ a0 a1 a2, us = [a0, a1, a2]
  | [a0, a1, a2], _ => ⟨a0, a1, a2, rfl⟩
theorem len_is4 : ∀ (us : List Value), us.length = 4 → ∃ a0 a1 a2 a3, us = [a0, a1, a2, a3]
  | [a0, a1, a2, a3], _ => ⟨a0, a1, a2, a3, rfl⟩
theorem all_mk {l : PySem.W.OpenLaw} {w : World} {K : PySem.W.Frag} {h : Heap} {mg : Str → Option Value} {fa f1 f2 f3 f4 f5 f6 f7 f8 f9 f10 f11 f12 f13 f14 f15 f16 f17 f18 : Addr} (X : K.In h) (G : h.Ns mainGlobals mg) (hfa : mg "law" = some (.ref fa))
    {od1 an1 od2 an2 od3 an3 od4 an4 od5 an5 od6 an6 od7 an7 od8 an8 od9 an9 od10 an10 od11 an11 od12 an12 od13 an13 od14 an14 od15 an15 od16 an16 od17 an17 od18 an18 : Option Addr} {sl1 sl2 sl3 sl4 sl5 sl6 sl7 sl8 sl9 sl10 sl11 sl12 sl13 sl14 sl15 sl16 sl17 sl18 : Array (Option Value)}
    {oc1 kV1 dc1 pm1 cd1 ct1 oc2 kV2 dc2 pm2 cd2 ct2 oc3 kV3 dc3 pm3 cd3 ct3 oc4 kV4 dc4 pm4 cd4 ct4 oc5 kV5 dc5 pm5 cd5 ct5 oc6 kV6 dc6 pm6 cd6 ct6 oc7 kV7 dc7 pm7 cd7 ct7 oc8 kV8 dc8 pm8 cd8 ct8 oc9 kV9 dc9 pm9 cd9 ct9 oc10 kV10 dc10 pm10 cd10 ct10 oc11 kV11 dc11 pm11 cd11 ct11 oc12 kV12 dc12 pm12 cd12 ct12 oc13 kV13 dc13 pm13 cd13 ct13 oc14 kV14 dc14 pm14 cd14 ct14 oc15 kV15 dc15 pm15 cd15 ct15 oc16 kV16 dc16 pm16 cd16 ct16 oc17 kV17 dc17 pm17 cd17 ct17 oc18 kV18 dc18 pm18 cd18 ct18 : Value}
    {t_MOST_THINGS : Tok}
    (a1 : PySem.W.nsIn K mainGlobals "are_too_many" = some (some (.ref f1))) (l1 : K.lookup f1 = some ⟨oc1, od1, .func (PySem.W.fnOf "are_too_many" "are_too_many" (defArgs s_are_too_many) (defBody s_are_too_many) (defScope s_are_too_many) .none kV1 dc1 pm1 an1 cd1 ct1), sl1⟩) (c1 : PySem.W.codeIn K cd1 "are_too_many" = true) (k1 : PySem.W.keepIn K (.ref f1) = true)
    (a2 : PySem.W.nsIn K mainGlobals "is_thing" = some (some (.ref f2))) (l2 : K.lookup f2 = some ⟨oc2, od2, .func (PySem.W.fnOf "is_thing" "is_thing" (defArgs s_is_thing) (defBody s_is_thing) (defScope s_is_thing) .none kV2 dc2 pm2 an2 cd2 ct2), sl2⟩) (c2 : PySem.W.codeIn K cd2 "is_thing" = true) (k2 : PySem.W.keepIn K (.ref f2) = true)
    (a3 : PySem.W.nsIn K mainGlobals "is_rising" = some (some (.ref f3))) (l3 : K.lookup f3 = some ⟨oc3, od3, .func (PySem.W.fnOf "is_rising" "is_rising" (defArgs s_is_rising) (defBody s_is_rising) (defScope s_is_rising) .none kV3 dc3 pm3 an3 cd3 ct3), sl3⟩) (c3 : PySem.W.codeIn K cd3 "is_rising" = true) (k3 : PySem.W.keepIn K (.ref f3) = true)
    (a4 : PySem.W.nsIn K mainGlobals "has_all_below" = some (some (.ref f4))) (l4 : K.lookup f4 = some ⟨oc4, od4, .func (PySem.W.fnOf "has_all_below" "has_all_below" (defArgs s_has_all_below) (defBody s_has_all_below) (defScope s_has_all_below) .none kV4 dc4 pm4 an4 cd4 ct4), sl4⟩) (c4 : PySem.W.codeIn K cd4 "has_all_below" = true) (k4 : PySem.W.keepIn K (.ref f4) = true)
    (a5 : PySem.W.nsIn K mainGlobals "is_row" = some (some (.ref f5))) (l5 : K.lookup f5 = some ⟨oc5, od5, .func (PySem.W.fnOf "is_row" "is_row" (defArgs s_is_row) (defBody s_is_row) (defScope s_is_row) .none kV5 dc5 pm5 an5 cd5 ct5), sl5⟩) (c5 : PySem.W.codeIn K cd5 "is_row" = true) (k5 : PySem.W.keepIn K (.ref f5) = true)
    (a6 : PySem.W.nsIn K mainGlobals "is_order" = some (some (.ref f6))) (l6 : K.lookup f6 = some ⟨oc6, od6, .func (PySem.W.fnOf "is_order" "is_order" (defArgs s_is_order) (defBody s_is_order) (defScope s_is_order) .none kV6 dc6 pm6 an6 cd6 ct6), sl6⟩) (c6 : PySem.W.codeIn K cd6 "is_order" = true) (k6 : PySem.W.keepIn K (.ref f6) = true)
    (a7 : PySem.W.nsIn K mainGlobals "_law_cell" = some (some (.ref f7))) (l7 : K.lookup f7 = some ⟨oc7, od7, .func (PySem.W.fnOf "_law_cell" "_law_cell" (defArgs s_l_cell) (defBody s_l_cell) (defScope s_l_cell) .none kV7 dc7 pm7 an7 cd7 ct7), sl7⟩) (c7 : PySem.W.codeIn K cd7 "_law_cell" = true) (k7 : PySem.W.keepIn K (.ref f7) = true)
    (a8 : PySem.W.nsIn K mainGlobals "_law_mixed" = some (some (.ref f8))) (l8 : K.lookup f8 = some ⟨oc8, od8, .func (PySem.W.fnOf "_law_mixed" "_law_mixed" (defArgs s_l_mixed) (defBody s_l_mixed) (defScope s_l_mixed) .none kV8 dc8 pm8 an8 cd8 ct8), sl8⟩) (c8 : PySem.W.codeIn K cd8 "_law_mixed" = true) (k8 : PySem.W.keepIn K (.ref f8) = true)
    (a9 : PySem.W.nsIn K mainGlobals "_law_draws" = some (some (.ref f9))) (l9 : K.lookup f9 = some ⟨oc9, od9, .func (PySem.W.fnOf "_law_draws" "_law_draws" (defArgs s_l_draws) (defBody s_l_draws) (defScope s_l_draws) .none kV9 dc9 pm9 an9 cd9 ct9), sl9⟩) (c9 : PySem.W.codeIn K cd9 "_law_draws" = true) (k9 : PySem.W.keepIn K (.ref f9) = true)
    (a10 : PySem.W.nsIn K mainGlobals "_law_same" = some (some (.ref f10))) (l10 : K.lookup f10 = some ⟨oc10, od10, .func (PySem.W.fnOf "_law_same" "_law_same" (defArgs s_l_same) (defBody s_l_same) (defScope s_l_same) .none kV10 dc10 pm10 an10 cd10 ct10), sl10⟩) (c10 : PySem.W.codeIn K cd10 "_law_same" = true) (k10 : PySem.W.keepIn K (.ref f10) = true)
    (a11 : PySem.W.nsIn K mainGlobals "_law_order" = some (some (.ref f11))) (l11 : K.lookup f11 = some ⟨oc11, od11, .func (PySem.W.fnOf "_law_order" "_law_order" (defArgs s_l_order) (defBody s_l_order) (defScope s_l_order) .none kV11 dc11 pm11 an11 cd11 ct11), sl11⟩) (c11 : PySem.W.codeIn K cd11 "_law_order" = true) (k11 : PySem.W.keepIn K (.ref f11) = true)
    (a12 : PySem.W.nsIn K mainGlobals "_law_drawn" = some (some (.ref f12))) (l12 : K.lookup f12 = some ⟨oc12, od12, .func (PySem.W.fnOf "_law_drawn" "_law_drawn" (defArgs s_l_drawn) (defBody s_l_drawn) (defScope s_l_drawn) .none kV12 dc12 pm12 an12 cd12 ct12), sl12⟩) (c12 : PySem.W.codeIn K cd12 "_law_drawn" = true) (k12 : PySem.W.keepIn K (.ref f12) = true)
    (a13 : PySem.W.nsIn K mainGlobals "_law_free" = some (some (.ref f13))) (l13 : K.lookup f13 = some ⟨oc13, od13, .func (PySem.W.fnOf "_law_free" "_law_free" (defArgs s_l_free) (defBody s_l_free) (defScope s_l_free) .none kV13 dc13 pm13 an13 cd13 ct13), sl13⟩) (c13 : PySem.W.codeIn K cd13 "_law_free" = true) (k13 : PySem.W.keepIn K (.ref f13) = true)
    (a14 : PySem.W.nsIn K mainGlobals "_law_changed" = some (some (.ref f14))) (l14 : K.lookup f14 = some ⟨oc14, od14, .func (PySem.W.fnOf "_law_changed" "_law_changed" (defArgs s_l_changed) (defBody s_l_changed) (defScope s_l_changed) .none kV14 dc14 pm14 an14 cd14 ct14), sl14⟩) (c14 : PySem.W.codeIn K cd14 "_law_changed" = true) (k14 : PySem.W.keepIn K (.ref f14) = true)
    (a15 : PySem.W.nsIn K mainGlobals "_law_long" = some (some (.ref f15))) (l15 : K.lookup f15 = some ⟨oc15, od15, .func (PySem.W.fnOf "_law_long" "_law_long" (defArgs s_l_long) (defBody s_l_long) (defScope s_l_long) .none kV15 dc15 pm15 an15 cd15 ct15), sl15⟩) (c15 : PySem.W.codeIn K cd15 "_law_long" = true) (k15 : PySem.W.keepIn K (.ref f15) = true)
    (a16 : PySem.W.nsIn K mainGlobals "_law_rows" = some (some (.ref f16))) (l16 : K.lookup f16 = some ⟨oc16, od16, .func (PySem.W.fnOf "_law_rows" "_law_rows" (defArgs s_l_rows) (defBody s_l_rows) (defScope s_l_rows) .none kV16 dc16 pm16 an16 cd16 ct16), sl16⟩) (c16 : PySem.W.codeIn K cd16 "_law_rows" = true) (k16 : PySem.W.keepIn K (.ref f16) = true)
    (a17 : PySem.W.nsIn K mainGlobals "_law_is" = some (some (.ref f17))) (l17 : K.lookup f17 = some ⟨oc17, od17, .func (PySem.W.fnOf "_law_is" "_law_is" (defArgs s_l_is) (defBody s_l_is) (defScope s_l_is) .none kV17 dc17 pm17 an17 cd17 ct17), sl17⟩) (c17 : PySem.W.codeIn K cd17 "_law_is" = true) (k17 : PySem.W.keepIn K (.ref f17) = true)
    (a18 : PySem.W.nsIn K mainGlobals "law" = some (some (.ref f18))) (l18 : K.lookup f18 = some ⟨oc18, od18, .func (PySem.W.fnOf "law" "law" (defArgs s_law) (defBody s_law) (defScope s_law) .none kV18 dc18 pm18 an18 cd18 ct18), sl18⟩) (c18 : PySem.W.codeIn K cd18 "law" = true) (k18 : PySem.W.keepIn K (.ref f18) = true)
    (z1 : PySem.W.nsIn K mainGlobals "enumerate" = some none) (z2 : PySem.W.nsIn K mainGlobals "all" = some none) (z3 : PySem.W.nsIn K mainGlobals "len" = some none) (z4 : PySem.W.nsIn K mainGlobals "range" = some none) (z5 : PySem.W.nsIn K mainGlobals "isinstance" = some none) (z6 : PySem.W.nsIn K mainGlobals "str" = some none) (z7 : PySem.W.nsIn K mainGlobals "int" = some none) (z8 : PySem.W.nsIn K mainGlobals "bool" = some none) (z9 : PySem.W.nsIn K mainGlobals "tuple" = some none) (z10 : PySem.W.nsIn K mainGlobals "sorted" = some none) (z11 : PySem.W.nsIn K mainGlobals "list" = some none) (y_MOST_THINGS : PySem.W.nsIn K mainGlobals "MOST_THINGS" = some (some (.int 9 t_MOST_THINGS))) :
    ∃ fd : FuncData, (∀ (s : Shared) (v : Value), BindsTo s fd ⟨[v], []⟩ [("_law_script", v)]) ∧ ∀ base : Heap, K.In base → base.Ns mainGlobals mg → FnOk l.prog w K mg base CX0 10 fa fd ["_law_script"] (sp4 K f_law) := by
  have e := hfa.symm.trans (PySem.W.mg_of X G a18)
  cases e
  have F1 := fun_mk (st := s_are_too_many) l1 c1 k1
  have F2 := fun_mk (st := s_is_thing) l2 c2 k2
  have F3 := fun_mk (st := s_is_rising) l3 c3 k3
  have F4 := fun_mk (st := s_has_all_below) l4 c4 k4
  have F5 := fun_mk (st := s_is_row) l5 c5 k5
  have F6 := fun_mk (st := s_is_order) l6 c6 k6
  have F7 := fun_mk (st := s_l_cell) l7 c7 k7
  have F8 := fun_mk (st := s_l_mixed) l8 c8 k8
  have F9 := fun_mk (st := s_l_draws) l9 c9 k9
  have F10 := fun_mk (st := s_l_same) l10 c10 k10
  have F11 := fun_mk (st := s_l_order) l11 c11 k11
  have F12 := fun_mk (st := s_l_drawn) l12 c12 k12
  have F13 := fun_mk (st := s_l_free) l13 c13 k13
  have F14 := fun_mk (st := s_l_changed) l14 c14 k14
  have F15 := fun_mk (st := s_l_long) l15 c15 k15
  have F16 := fun_mk (st := s_l_rows) l16 c16 k16
  have F17 := fun_mk (st := s_l_is) l17 c17 k17
  have F18 := fun_mk (st := s_law) l18 c18 k18
  have b1 := F1.binds (ps := ["n"]) fun _ _ _ _ _ _ us hl => by obtain ⟨_, rfl⟩ := len_is1 us hl; rfl
  have g1 := PySem.W.mg_of X G a1
  have b2 := F2.binds (ps := ["number", "n"]) fun _ _ _ _ _ _ us hl => by obtain ⟨_, _, rfl⟩ := len_is2 us hl; rfl
  have g2 := PySem.W.mg_of X G a2
  have b3 := F3.binds (ps := ["things", "n"]) fun _ _ _ _ _ _ us hl => by obtain ⟨_, _, rfl⟩ := len_is2 us hl; rfl
  have g3 := PySem.W.mg_of X G a3
  have b4 := F4.binds (ps := ["rows", "row"]) fun _ _ _ _ _ _ us hl => by obtain ⟨_, _, rfl⟩ := len_is2 us hl; rfl
  have g4 := PySem.W.mg_of X G a4
  have b5 := F5.binds (ps := ["rows", "b"]) fun _ _ _ _ _ _ us hl => by obtain ⟨_, _, rfl⟩ := len_is2 us hl; rfl
  have g5 := PySem.W.mg_of X G a5
  have b6 := F6.binds (ps := ["rows"]) fun _ _ _ _ _ _ us hl => by obtain ⟨_, rfl⟩ := len_is1 us hl; rfl
  have g6 := PySem.W.mg_of X G a6
  have b7 := F7.binds (ps := ["_law_script", "_law_k"]) fun _ _ _ _ _ _ us hl => by obtain ⟨_, _, rfl⟩ := len_is2 us hl; rfl
  have g7 := PySem.W.mg_of X G a7
  have b8 := F8.binds (ps := ["_law_cell_here", "_law_k", "_law_salt"]) fun _ _ _ _ _ _ us hl => by obtain ⟨_, _, _, rfl⟩ := len_is3 us hl; rfl
  have g8 := PySem.W.mg_of X G a8
  have b9 := F9.binds (ps := ["_law_cell_here", "_law_many", "_law_salt"]) fun _ _ _ _ _ _ us hl => by obtain ⟨_, _, _, rfl⟩ := len_is3 us hl; rfl
  have g9 := PySem.W.mg_of X G a9
  have b10 := F10.binds (ps := ["_law_found", "_law_due"]) fun _ _ _ _ _ _ us hl => by obtain ⟨_, _, rfl⟩ := len_is2 us hl; rfl
  have g10 := PySem.W.mg_of X G a10
  have b11 := F11.binds (ps := ["_law_draws_here", "_law_n", "_law_thick"]) fun _ _ _ _ _ _ us hl => by obtain ⟨_, _, _, rfl⟩ := len_is3 us hl; rfl
  have g11 := PySem.W.mg_of X G a11
  have b12 := F12.binds (ps := ["_law_script", "_law_k", "_law_most", "_law_salt"]) fun _ _ _ _ _ _ us hl => by obtain ⟨_, _, _, _, rfl⟩ := len_is4 us hl; rfl
  have g12 := PySem.W.mg_of X G a12
  have b13 := F13.binds (ps := ["_law_draws_here"]) fun _ _ _ _ _ _ us hl => by obtain ⟨_, rfl⟩ := len_is1 us hl; rfl
  have g13 := PySem.W.mg_of X G a13
  have b14 := F14.binds (ps := ["_law_order_here", "_law_draws_here"]) fun _ _ _ _ _ _ us hl => by obtain ⟨_, _, rfl⟩ := len_is2 us hl; rfl
  have g14 := PySem.W.mg_of X G a14
  have b15 := F15.binds (ps := ["_law_order_here", "_law_draws_here"]) fun _ _ _ _ _ _ us hl => by obtain ⟨_, _, rfl⟩ := len_is2 us hl; rfl
  have g15 := PySem.W.mg_of X G a15
  have b16 := F16.binds (ps := ["_law_script", "_law_k", "_law_salt"]) fun _ _ _ _ _ _ us hl => by obtain ⟨_, _, _, rfl⟩ := len_is3 us hl; rfl
  have g16 := PySem.W.mg_of X G a16
  have b17 := F17.binds (ps := ["_law_rows_here"]) fun _ _ _ _ _ _ us hl => by obtain ⟨_, rfl⟩ := len_is1 us hl; rfl
  have g17 := PySem.W.mg_of X G a17
  have m_enumerate := PySem.W.mg_none_of X G z1
  have m_all := PySem.W.mg_none_of X G z2
  have m_len := PySem.W.mg_none_of X G z3
  have m_range := PySem.W.mg_none_of X G z4
  have m_isinstance := PySem.W.mg_none_of X G z5
  have m_str := PySem.W.mg_none_of X G z6
  have m_int := PySem.W.mg_none_of X G z7
  have m_bool := PySem.W.mg_none_of X G z8
  have m_tuple := PySem.W.mg_none_of X G z9
  have m_sorted := PySem.W.mg_none_of X G z10
  have m_list := PySem.W.mg_none_of X G z11
  have c_MOST_THINGS := PySem.W.mg_of X G y_MOST_THINGS
  refine ⟨PySem.W.fnOf "law" "law" (defArgs s_law) (defBody s_law) (defScope s_law) .none kV18 dc18 pm18 an18 cd18 ct18, fun s v => .of_eq rfl, fun base _ _ => ?_⟩
  have o1 : FnOk l.prog w K mg base CX0 4 f1 _ _ (sp4 K LL.f_are_too_many) := ok_are_too_many (kk := 3) F1 c_MOST_THINGS
  have o2 : FnOk l.prog w K mg base CX0 4 f2 _ _ (sp4 K LL.f_is_thing) := ok_is_thing (kk := 3) F2 
  have o3 : FnOk l.prog w K mg base CX0 5 f3 _ _ (sp4 K LL.f_is_rising) := ok_is_rising (kk := 4) F3 (o2.mono (by decide)) g2 k2 b2 m_enumerate
  have o4 : FnOk l.prog w K mg base CX0 4 f4 _ _ (sp4 K LL.f_has_all_below) := ok_has_all_below (kk := 3) F4 m_all
  have o5 : FnOk l.prog w K mg base CX0 6 f5 _ _ (sp4 K LL.f_is_row) := ok_is_row (kk := 5) F5 (o4.mono (by decide)) g4 k4 b4 (o3.mono (by decide)) g3 k3 b3 m_len
  have o6 : FnOk l.prog w K mg base CX0 7 f6 _ _ (sp4 K LL.f_is_order) := ok_is_order (kk := 6) F6 (o5.mono (by decide)) g5 k5 b5 (o1.mono (by decide)) g1 k1 b1 m_len m_range m_all
  have o7 : FnOk l.prog w K mg base CX0 4 f7 _ _ (sp4 K LL.f_l_cell) := ok_l_cell (kk := 3) F7 m_len
  have o8 : FnOk l.prog w K mg base CX0 4 f8 _ _ (sp4 K LL.f_l_mixed) := ok_l_mixed (kk := 3) F8 
  have o9 : FnOk l.prog w K mg base CX0 5 f9 _ _ (sp4 K LL.f_l_draws) := ok_l_draws (kk := 4) F9 (o8.mono (by decide)) g8 k8 b8 m_range
  have o10 : FnOk l.prog w K mg base CX0 9 f10 _ _ (sp4 K (LL.f_l_same 6)) := ok_l_same (kk := 3) F10 g10 k10 b10 m_isinstance m_str m_int m_bool m_tuple m_len m_range m_all 6
  have o11 : FnOk l.prog w K mg base CX0 4 f11 _ _ (sp4 K LL.f_l_order) := ok_l_order (kk := 3) F11 m_range m_sorted m_tuple m_len m_list
  have o12 : FnOk l.prog w K mg base CX0 6 f12 _ _ (sp4 K LL.f_l_drawn) := ok_l_drawn (kk := 5) F12 (o11.mono (by decide)) g11 k11 b11 (o9.mono (by decide)) g9 k9 b9 (o7.mono (by decide)) g7 k7 b7
  have o13 : FnOk l.prog w K mg base CX0 4 f13 _ _ (sp4 K f_l_free) := ok_l_free (kk := 3) F13 m_tuple m_range
  have o14 : FnOk l.prog w K mg base CX0 4 f14 _ _ (sp4 K f_l_changed) := ok_l_changed (kk := 3) F14 m_tuple m_list m_range m_len m_sorted
  have o15 : FnOk l.prog w K mg base CX0 4 f15 _ _ (sp4 K f_l_long) := ok_l_long (kk := 3) F15 m_tuple m_range m_len
  have o16 : FnOk l.prog w K mg base CX0 7 f16 _ _ (sp4 K f_l_rows) := ok_l_rows (kk := 6) F16 (o14.mono (by decide)) g14 k14 b14 (o15.mono (by decide)) g15 k15 b15 (o12.mono (by decide)) g12 k12 b12 (o13.mono (by decide)) g13 k13 b13 (o9.mono (by decide)) g9 k9 b9 (o7.mono (by decide)) g7 k7 b7
  have o17 : FnOk l.prog w K mg base CX0 4 f17 _ _ (sp4 K f_l_is) := ok_l_is (kk := 3) F17 m_all m_range m_list m_len
  exact ok_law (kk := 9) F18 (o10.mono (by decide)) g10 k10 b10 (o17.mono (by decide)) g17 k17 b17 (o6.mono (by decide)) g6 k6 b6 (o16.mono (by decide)) g16 k16 b16
theorem scr_of {K : PySem.W.Frag} {H : Hp} {a : Addr} {ns : List Int} (o : Only H) (h : SqL K H a (ns.map V.int)) : Scr K H a ns := by
  rcases h with h | h
  · rcases h with h | ⟨b, h⟩
    · rcases o a with z | ⟨_, _, z⟩ | ⟨_, z⟩ <;> rw [z] at h <;> cases h
    · exact .inl ⟨b, h⟩
  · exact .inr (.inr h)
theorem walk {l : PySem.W.OpenLaw} {q : Program} {loose : List Str} {XP : (Str → Option Value) → Heap → Prop} {YP : World → Heap → Prop} {d : DefRec} {K : Params → PySem.W.Frag} (hn : l.most = some 63) (hdf : d.params.defaults = [])
    (hY : ∀ (w : World) (h : Heap), YP w h → (K w.params).In h) (hTb : ∀ w : World, TabsOk (K w.params) q) (hnt : ∀ w : World, PySem.W.noTabs (K w.params) = true)
    (F : ∀ (w : World) (mg : Str → Option Value) (fa : Addr) (h : Heap), (K w.params).In h → h.Ns mainGlobals mg → mg d.name = some (.ref fa) →
      ∃ fd : FuncData, (∀ (s : Shared) (u : Value), BindsTo s fd ⟨[u], []⟩ [("_law_script", u)]) ∧ ∀ base : Heap, (K w.params).In base → base.Ns mainGlobals mg → FnOk l.prog w (K w.params) mg base CX0 10 fa fd ["_law_script"] (sp4 (K w.params) f_law)) :
    PySem.W.WalkO q loose XP YP l.row.toRowW d [] (fun f vs => PySem.call f vs) :=
  L2.walk_of (n := 63) (k := 10) (x := "_law_script") (CX := fun _ => CX0) (sp := fun w => sp4 (K w.params) f_law) hn (by decide) hdf ⟨rfl, by decide, by decide⟩ hY hTb hnt F
    (fun _ H a ns hl o hS => ⟨fun a => H a = none, [.scr ns], fun d => d = .bl true, fun _ h => h, ⟨_, _, rfl, ⟨a, rfl, scr_of o hS⟩, rfl⟩, ⟨_, law_true ns hl, rfl⟩, fun v H' d _ hd e => by subst e; exact hd⟩) fun _ _ _ _ _ z => z
end K01
open PySem PySem.W PyProof.Rows
noncomputable def PySem.W.Fast.tw6737149685613417329 := 0
noncomputable def PySem.W.Fast.tw13104624477997987533 := 0
noncomputable def PySem.W.Fast.tw2388046108930469269 := 0
noncomputable def PySem.W.Fast.tw12259975000391720735 := 0
noncomputable def PySem.W.Fast.tw6499415587023761622 := 0
noncomputable def PySem.W.Fast.tw9074128050313113511 := 0
set_option maxRecDepth 100000 in
set_option maxHeartbeats 0 in
theorem PySem.Challenge.cw_risecount_k01_what_is_an_order_holds : PySem.Challenge.rw_risecount_k01_what_is_an_order.Holds := by
  w_on; o_law; k_head; (case hw => w_witness2)
  k_fill
  refine K01.walk (l := PySem.Challenge.rw_risecount_k01_what_is_an_order) rfl rfl (fun w h Y => PySem.W.kIn_of Y) ?hTbs ?hNtb ?F
  case hTbs =>
    intro w
    refine' L4.tabs_ok (L4.lamTabs_5 ?t1 ?t2 ?t3 ?t4 ?t5) ?nd ?rc
    (case t1 => (refine' L4.tab_none ?p1; (case p1 => k_is)))
    (case t2 => (refine' L4.tab_none ?p1; (case p1 => k_is)))
    (case t3 => (refine' L4.tab_none ?p1; (case p1 => k_is)))
    (case t4 => (refine' L4.tab_none ?p1; (case p1 => k_is)))
    (case t5 => (refine' L4.tab_none ?p1; (case p1 => k_is)))
    (case nd => decide)
    (case rc => (intro t ht; cases ht))
  case hNtb =>
    intro w
    kernel_rfl
  case F =>
    intro w mg fa h KX G hmg
    refine' K01.all_mk KX G hmg ?a1 ?l1 ?c1 ?k1 ?a2 ?l2 ?c2 ?k2 ?a3 ?l3 ?c3 ?k3 ?a4 ?l4 ?c4 ?k4 ?a5 ?l5 ?c5 ?k5 ?a6 ?l6 ?c6 ?k6 ?a7 ?l7 ?c7 ?k7 ?a8 ?l8 ?c8 ?k8 ?a9 ?l9 ?c9 ?k9 ?a10 ?l10 ?c10 ?k10 ?a11 ?l11 ?c11 ?k11 ?a12 ?l12 ?c12 ?k12 ?a13 ?l13 ?c13 ?k13 ?a14 ?l14 ?c14 ?k14 ?a15 ?l15 ?c15 ?k15 ?a16 ?l16 ?c16 ?k16 ?a17 ?l17 ?c17 ?k17 ?a18 ?l18 ?c18 ?k18 ?z1 ?z2 ?z3 ?z4 ?z5 ?z6 ?z7 ?z8 ?z9 ?z10 ?z11 ?y_MOST_THINGS
    (case a1 => k_is); (case l1 => k_is); (case c1 => k_is); (case k1 => k_is)
    (case a2 => k_is); (case l2 => k_is); (case c2 => k_is); (case k2 => k_is)
    (case a3 => k_is); (case l3 => k_is); (case c3 => k_is); (case k3 => k_is)
    (case a4 => k_is); (case l4 => k_is); (case c4 => k_is); (case k4 => k_is)
    (case a5 => k_is); (case l5 => k_is); (case c5 => k_is); (case k5 => k_is)
    (case a6 => k_is); (case l6 => k_is); (case c6 => k_is); (case k6 => k_is)
    (case a7 => k_is); (case l7 => k_is); (case c7 => k_is); (case k7 => k_is)
    (case a8 => k_is); (case l8 => k_is); (case c8 => k_is); (case k8 => k_is)
    (case a9 => k_is); (case l9 => k_is); (case c9 => k_is); (case k9 => k_is)
    (case a10 => k_is); (case l10 => k_is); (case c10 => k_is); (case k10 => k_is)
    (case a11 => k_is); (case l11 => k_is); (case c11 => k_is); (case k11 => k_is)
    (case a12 => k_is); (case l12 => k_is); (case c12 => k_is); (case k12 => k_is)
    (case a13 => k_is); (case l13 => k_is); (case c13 => k_is); (case k13 => k_is)
    (case a14 => k_is); (case l14 => k_is); (case c14 => k_is); (case k14 => k_is)
    (case a15 => k_is); (case l15 => k_is); (case c15 => k_is); (case k15 => k_is)
    (case a16 => k_is); (case l16 => k_is); (case c16 => k_is); (case k16 => k_is)
    (case a17 => k_is); (case l17 => k_is); (case c17 => k_is); (case k17 => k_is)
    (case a18 => k_is); (case l18 => k_is); (case c18 => k_is); (case k18 => k_is)
    (case z1 => k_is)
    (case z2 => k_is)
    (case z3 => k_is)
    (case z4 => k_is)
    (case z5 => k_is)
    (case z6 => k_is)
    (case z7 => k_is)
    (case z8 => k_is)
    (case z9 => k_is)
    (case z10 => k_is)
    (case z11 => k_is)
    (case y_MOST_THINGS => k_is)
end
