import PyProof.Rows.All
import PySem.Str
import PySem.Sem
import PyProof.StrBlockL
import PyProof.Rows.Walk
import PyProof.Rows.StrFacts2
import PyProof.StrLawsTight
import PyProof.StrLawsChain
import Wide.All
import OpenK.AllK
import Wide.FinOn
import Lean
import PyProof.EqAt
import PyProof.EqKinds
import PyProof.TupleCall
import PyProof.SeqRoads2
import PyProof.ExcArgs
import KE.KIsAll
import PyProof.DictIter
import PyProof.Rows.CountFlat
import PyProof.NeKinds
import KE.KSortKey
import KE.KMinKey
import KE.KIntText
import PyProof.Rows.FStr
import PyProof.Rows.StrJoin2
import PySem.Challenge.RW_risecount_k06_written_and_read
set_option Elab.async false
set_option linter.all false
set_option maxRecDepth 100000
set_option maxHeartbeats 3999999
section
namespace L3
open PySem
inductive D where
 | non
 | bl (b:Bool)
 | int (i:Int)
 | str (x:Str)
 | tup (xs:List D)
 | lst (xs:List D)
 | nW (ns:List Int)
 | iQ (ks:List (Sum Int Str)) (xs:List D)
 | iH (q:Nat->Obj->Prop) (ks:List (Sum (Sum Int Str) (List (Sum (Sum Int Str) (List (Sum Int Str)))))) (xs:List D)
 | exc (c:Str) (a:Nat)
 | rws (xs:List (List Int))
mutual
noncomputable def D.tJ:D->Bool
 | .non=>true
 | .bl _=>true
 | .int _=>true
 | .str _=>true
 | .tup ds=>nX ds
 | .lst _=>false
 | .nW _=>true
 | .iQ _ _=>false
 | .iH _ _ _=>false
 | .exc _ _=>true
 | .rws _=>false
noncomputable def nX:List D->Bool
 | []=>true
 | d::ds=>d.tJ&&nX ds
end
noncomputable abbrev bN:=List (Option D)
inductive Sv where
 | no
 | ro (d:D)
 | ow (d:D)
noncomputable abbrev aT:=List Sv
noncomputable def Sv.all:Sv->Option D
 | .no=>none
 | .ro d=>some d
 | .ow d=>some d
noncomputable def Sv.rd:Sv->Option D
 | .ro d=>some d
 | _=>none
noncomputable def bQ (ρ:aT):bN:=ρ.map Sv.all
noncomputable def jY (ρ:aT):bN:=ρ.map Sv.rd
end L3
namespace L4
open PySem L3
inductive M (α:Type) where
 | no
 | ex (c:Str)
 | ok (a:α)
inductive Out where
 | no
 | nx (ρ:aT)
 | rt (d:D)
 | ex (c:Str)
noncomputable abbrev EF:=bN->Option D
noncomputable abbrev TF:=bN->Option Bool
noncomputable abbrev AF:=bN->Option (List D)
noncomputable abbrev XF:=aT->Option (aT×D)
noncomputable abbrev SF:=aT->Out
noncomputable abbrev dP:=List D->M D
noncomputable def gX:Nat:=16777216
noncomputable def aB (i:Nat):EF:=fun ρ=>(ρ[i]?).join
noncomputable def eC (d:D):EF:=fun _=>some d
noncomputable def aE (g:D->D->Option D) (a b:EF):EF:=fun ρ=>(a ρ).bind fun x=>(b ρ).bind fun y=>g x y
noncomputable def kF:D->Option Bool
 | .bl b=>some b
 | .lst ds=>some (!ds.isEmpty)
 | .tup ds=>some (!ds.isEmpty)
 | _=>none
noncomputable def tV (f:EF):TF:=fun ρ=>(f ρ).bind kF
noncomputable def fE (t:TF):TF:=fun ρ=>(t ρ).map (!·)
noncomputable def lW (t u:TF):TF:=fun ρ=>(t ρ).bind fun b=>if b=true then u ρ else some false
noncomputable def mC (t u:TF):TF:=fun ρ=>(t ρ).bind fun b=>if b=true then some true else u ρ
noncomputable def rF:D->Option Bool
 | .bl b=>some b
 | _=>none
noncomputable def fZ (a b:EF):EF:=fun ρ=>(a ρ).bind fun x=>(rF x).bind fun c=>if c=true then b ρ else some (.bl false)
noncomputable def VY (a b:EF):EF:=fun ρ=>(a ρ).bind fun x=>(rF x).bind fun c=>if c=true then some (.bl true) else b ρ
noncomputable def sL (a:EF):EF:=fun ρ=>(a ρ).bind fun x=>(rF x).map fun c=>.bl (!c)
noncomputable def SA (t:TF) (a b:EF):EF:=fun ρ=>(t ρ).bind fun c=>if c=true then a ρ else b ρ
noncomputable def SD:D->Option D
 | .int i=>some (.int (-i))
 | _=>none
noncomputable def sM (a:EF):EF:=fun ρ=>(a ρ).bind SD
noncomputable def kG (f g:D->D->Option D) (a b c:EF):EF:=fun ρ=>(a ρ).bind fun x=>(b ρ).bind fun y=>(f x y).bind fun z=>(rF z).bind fun k=>if k=true then (c ρ).bind fun w=>g y w else some (.bl false)
noncomputable def EE (g:Int->Int->D):D->D->Option D
 | .int i,.int j=>some (g i j)
 | _,_=>none
noncomputable def mD (c:Int->Int->Bool) (g:Int->Int->D):D->D->Option D
 | .int i,.int j=>if c i j=true then some (g i j) else none
 | _,_=>none
noncomputable def bM:D->D->Option D
 | .int i,.int j=>some (.int (i+j))
 | .lst a,.lst b=>if a.length+b.length<=gX then some (.lst (a++b)) else none
 | .tup a,.tup b=>if a.length+b.length<=gX then some (.tup (a++b)) else none
 | .str a,.str b=>if a.length+b.length<=gX then some (.str (a++b)) else none
 | _,_=>none
noncomputable def e9:D->D->Option D:=EE fun i j=>.int (i - j)
noncomputable def BR (i j:Int):Bool:=decide (i.natAbs<18446744073709551616)||decide (j.natAbs<18446744073709551616)||decide (i.natAbs.log2+j.natAbs.log2<=134217700)
noncomputable def mulM:D->D->Option D:=mD BR fun i j=>.int (i*j)
noncomputable def cJ:D->D->Option D:=mD (fun _ j=>decide (0<j)) fun i j=>.int (i % j)
noncomputable def kH:D->D->Option D:=mD (fun _ j=>decide (0<j)&&decide (j.natAbs<1073741824)) fun i j=>.int (i / j)
noncomputable def BS:D->D->Option D:=mD (fun i j=>decide (0<=j)&&decide (j.natAbs<=1000000)&&decide (i.natAbs<18446744073709551616)) fun i j=>.int (i ^ j.toNat)
noncomputable def R4:D->D->Option D:=EE fun i j=>.bl (decide (i<j))
noncomputable def leM:D->D->Option D:=EE fun i j=>.bl (decide (i<=j))
noncomputable def EC:D->D->Option D:=EE fun i j=>.bl (decide (j<i))
noncomputable def geM:D->D->Option D:=EE fun i j=>.bl (decide (j<=i))
noncomputable def VZ:D->D->Option Bool
 | .int i,.int j=>some (decide (i=j))
 | .bl i,.bl j=>some (decide (i=j))
 | .str i,.str j=>some (decide (i=j))
 | .non,.non=>some true
 | _,_=>none
noncomputable def jI:D->D->Option D:=fun x y=>(VZ x y).map .bl
noncomputable def R5:D->D->Option D:=fun x y=>(VZ x y).map fun b=>.bl (!b)
noncomputable def tK:D->Bool
 | .non=>true
 | _=>false
noncomputable def R6:D->D->Option D:=fun x y=>if tK y=true then some (.bl (tK x)) else none
noncomputable def intsOf:List D->Option (List Int)
 | []=>some []
 | .int i::ds=>(intsOf ds).map (i :: ·)
 | _::_=>none
noncomputable def jX (neg:Bool):D->D->Option D
 | .int i,.tup ds=>(intsOf ds).map fun ns=>.bl (if neg then !ns.contains i else ns.contains i)
 | .int i,.lst ds=>(intsOf ds).map fun ns=>.bl (if neg then !ns.contains i else ns.contains i)
 | _,_=>none
noncomputable def V0 (n:Nat) (i:Int):Option Nat:=if 0<=i then (if i<n then some i.toNat else none) else if -(n:Int)<=i then some (i+n).toNat else none
noncomputable def wL {α:Type} (xs:List α) (i:Int):Option α:=(V0 xs.length i).bind fun j=>xs[j]?
noncomputable def bZ:D->D->Option D
 | .lst a,.int i=>wL a i
 | .tup a,.int i=>wL a i
 | .nW a,.int i=>(wL a i).map D.int
 | _,_=>none
noncomputable def zE:D->Option (Sum Int Str)
 | .int i=>some (.inl i)
 | .str x=>some (.inr x)
 | _=>none
noncomputable def iV (ks:List (Sum Int Str)) (ds:List D) (k:Sum Int Str):Option D:=((ks.zip ds).find? fun kv=>decide (kv.1=k)).map (·.2)
noncomputable def tL:D->D->Option D
 | .iQ ks ds,d=>(zE d).bind fun k=>iV ks ds k
 | _,_=>none
noncomputable def aC:AF:=fun _=>some []
noncomputable def aA (a:EF) (t:AF):AF:=fun ρ=>(a ρ).bind fun d=>(t ρ).bind fun ds=>some (d::ds)
noncomputable def dE (t:AF):EF:=fun ρ=>(t ρ).bind fun ds=>if ds.length<=gX then some (.tup ds) else none
noncomputable def dD (t:AF):EF:=fun ρ=>(t ρ).bind fun ds=>if ds.length<=gX then some (.lst ds) else none
noncomputable def bA (g:List D->Option D) (t:AF):EF:=fun ρ=>(t ρ).bind g
noncomputable def BU:M D->Option D
 | .ok d=>some d
 | _=>none
noncomputable def aF (R:dP) (t:AF):EF:=fun ρ=>(t ρ).bind fun ds=>BU (R ds)
noncomputable def bL:List D->Option D
 | [.lst a]=>some (.int a.length)
 | [.tup a]=>some (.int a.length)
 | [.nW a]=>some (.int a.length)
 | _=>none
noncomputable def bH:List D->Option D
 | [.lst a]=>some (.tup a)
 | [.tup a]=>some (.tup a)
 | _=>none
noncomputable def BV:List D->Option D
 | [.lst a]=>some (.lst a)
 | [.tup a]=>some (.lst a)
 | _=>none
noncomputable def insI (a:Int):List Int->List Int
 | []=>[a]
 | b::l=>if a<=b then a::b::l else b::insI a l
noncomputable def sortI:List Int->List Int
 | []=>[]
 | a::l=>insI a (sortI l)
noncomputable def fC:List D->Option D
 | [.lst a]=>(intsOf a).bind fun ns=>if ns.length<64 then some (.lst ((sortI ns).map D.int)) else none
 | _=>none
noncomputable def NF:List D->Option D
 | [.lst a]=>(intsOf a).map fun ns=>.int ns.sum
 | _=>none
noncomputable def mP:List D->Option (List Bool)
 | []=>some []
 | d::ds=>(kF d).bind fun b=>(mP ds).map (b :: ·)
noncomputable def allM:List D->Option D
 | [.lst a]=>(mP a).map fun bs=>.bl (bs.all id)
 | _=>none
noncomputable def anyM:List D->Option D
 | [.lst a]=>(mP a).map fun bs=>.bl (bs.any id)
 | _=>none
noncomputable def tyM:D->String
 | .non => "NoneType"
 | .bl _ => "bool"
 | .int _ => "int"
 | .str _ => "str"
 | .tup _ => "tuple"
 | .lst _ => "list"
 | .nW _ => "list"
 | .iQ _ _ => "dict"
 | .iH _ _ _ => "dict"
 | .exc _ _ => "NoneType"
 | .rws _ => "NoneType"
noncomputable def EG (T:String) (d:D):Bool:=tyM d == T||(T == "int" && tyM d == "bool")
noncomputable def EH:D->Bool
 | .exc _ _=>false
 | .iH _ _ _=>false
 | .rws _=>false
 | _=>true
noncomputable def iI (T:String) (a:EF):EF:=fun ρ=>(a ρ).bind fun d=>if EH d=true then some (.bl (EG T d)) else none
noncomputable def cQ (lo:Int) (n:Nat):List Int:=(List.range n).map fun k:Nat=>lo+(k:Int)
noncomputable def aEV (hi:Int) (n:Nat):List Int:=(List.range n).map fun k:Nat=>hi - (k:Int)
noncomputable def EI (t:AF):EF:=fun ρ=>(t ρ).bind fun ds=>match ds with
 | [.int j]=>if j.natAbs<=16777216 then some (.lst ((cQ 0 j.toNat).map D.int)) else none
 | _=>none
noncomputable def V1:List D->Option D
 | [.int i,.int j]=>some (.int (if j>i then j else i))
 | _=>none
noncomputable def repLM:D->D->Option D
 | .lst a,.int n=>if a.length*n.toNat<=gX/\n.natAbs<9223372036854775808 then some (.lst (List.replicate n.toNat a).flatten) else none
 | _,_=>none
noncomputable def xM:D->D->Option D
 | .tup a,.int n=>if a.length*n.toNat<=gX/\n.natAbs<9223372036854775808 then some (.tup (List.replicate n.toNat a).flatten) else none
 | _,_=>none
noncomputable def zF:D->D->Option D
 | .lst a,.lst b=>if a.length+b.length<=gX then some (.lst (a++b)) else none
 | _,_=>none
noncomputable def BW:D->Option (List D)
 | .lst ds=>some ds
 | .tup ds=>some ds
 | _=>none
noncomputable def bE (f:EF):AF:=fun ρ=>(f ρ).bind BW
noncomputable def EJ:List D->Option (List D)
 | [.int j]=>if j.natAbs<4611686018427387904 then some ((cQ 0 j.toNat).map D.int) else none
 | [.int i,.int j]=>if i.natAbs<4611686018427387904/\j.natAbs<4611686018427387904 then some ((cQ i (j - i).toNat).map D.int) else none
 | [.int i,.int j,.int k]=>if k=-1/\i.natAbs<1000000/\j.natAbs<1000000 then some ((aEV i (i - j).toNat).map D.int) else none
 | _=>none
noncomputable def aV (t:AF):AF:=fun ρ=>(t ρ).bind EJ
noncomputable def HJ:List D->Option (List D)
 | [.lst ds]=>some (ds.zipIdx.map fun p=>.tup [.int (p.2:Int),p.1])
 | [.tup ds]=>some (ds.zipIdx.map fun p=>.tup [.int (p.2:Int),p.1])
 | _=>none
noncomputable def iW (t:AF):AF:=fun ρ=>(t ρ).bind HJ
noncomputable def aEW:List D->Option (List D)
 | [a,b]=>(BW a).bind fun xs=>(BW b).map fun ys=>(xs.zip ys).map fun p=>.tup [p.1,p.2]
 | _=>none
noncomputable def XG (t:AF):AF:=fun ρ=>(t ρ).bind aEW
noncomputable def XH:List D->Option (List D)
 | [.lst ds]=>some ds.reverse
 | [.tup ds]=>some ds.reverse
 | _=>none
noncomputable def JZ (t:AF):AF:=fun ρ=>(t ρ).bind XH
noncomputable abbrev EK:=D->bN->Option bN
noncomputable def g1 (i:Nat):EK:=fun d ρ=>some (ρ.set i (some d))
noncomputable def xN:D->Option (D×D)
 | .tup [x,y]=>some (x,y)
 | _=>none
noncomputable def g2 (i j:Nat):EK:=fun d ρ=>(xN d).map fun p=>(ρ.set i (some p.1)).set j (some p.2)
noncomputable def bF:TF:=fun _=>some true
noncomputable def benv (nl:Nat) (fr:List Nat) (ρ:bN):bN:=List.replicate nl none++fr.map fun j=>(ρ[j]?).join
noncomputable def iJ (g:EK) (t:TF) (e:EF) (ρ:bN):List D->Option (List D)
 | []=>some []
 | d::ds=>(g d ρ).bind fun ρ1=>(t ρ1).bind fun b=>if b=true then (e ρ1).bind fun y=>(iJ g t e ρ ds).map (y :: ·) else iJ g t e ρ ds
noncomputable def bC (nl:Nat) (fr:List Nat) (it:AF) (g:EK) (t:TF) (e:EF):EF:=fun ρ=>(it ρ).bind fun ds=>if ds.length<=gX then (iJ g t e (benv nl fr ρ) ds).map D.lst else none
noncomputable abbrev OF:=bN->Option (Option Int)
noncomputable def NG:OF:=fun _=>some none
noncomputable def asInt:D->Option Int
 | .int i=>some i
 | _=>none
noncomputable def oE (f:EF):OF:=fun ρ=>(f ρ).bind fun d=>(asInt d).map some
noncomputable def zG (n d:Nat):Option Int->Nat
 | none=>d
 | some i=>if i<0 then (i+n).toNat else min i.toNat n
noncomputable def J0 (xs:List D) (lo hi:Option Int):List D:=(xs.drop (zG xs.length 0 lo)).take (zG xs.length xs.length hi - zG xs.length 0 lo)
noncomputable def slM (d:D) (lo hi:Option Int):Option D:=match d with
 | .lst ds=>some (.lst (J0 ds lo hi))
 | .tup ds=>some (.tup (J0 ds lo hi))
 | _=>none
noncomputable def NH (f:EF) (lo hi:OF):EF:=fun ρ=>(f ρ).bind fun d=>(lo ρ).bind fun l=>(hi ρ).bind fun h=>slM d l h
noncomputable def mE (f:EF):XF:=fun ρ=>(f (bQ ρ)).bind fun d=>if d.tJ=true then some (ρ,d) else none
noncomputable def aM (f:EF):XF:=fun ρ=>(f (jY ρ)).bind fun d=>some (ρ,d)
noncomputable def mQ:Option Sv->Option (List D)
 | some (.ow (.lst ds))=>some ds
 | _=>none
noncomputable def iR (i:Nat) (m:List D->D->Option (List D×D)) (x:XF):XF:=fun ρ=>(mQ ρ[i]?).bind fun _=>(x ρ).bind fun p=>(mQ p.1[i]?).bind fun ds=>(m ds p.2).map fun q=>(p.1.set i (.ow (.lst q.1)),q.2)
noncomputable def eF:List D->D->Option (List D×D):=fun ds d=>if ds.length<gX then some (ds++[d],.non) else none
noncomputable def NI:List D->D->Option (List D×D)
 | ds,.int k=>if k.natAbs<9223372036854775808 then (V0 ds.length k).bind fun j=>(ds[j]?).map fun d=>(ds.eraseIdx j,d) else none
 | _,_=>none
noncomputable def BX:List D->D->Option (List D×D)
 | ds,.lst es=>if ds.length+es.length<=gX then some (ds++es,.non) else none
 | _,_=>none
noncomputable def NJ (i:Nat):XF:=fun ρ=>(mQ ρ[i]?).bind fun ds=>(ds[ds.length - 1]?).map fun d=>(ρ.set i (.ow (.lst ds.dropLast)),d)
noncomputable def cM:SF:=fun ρ=>.nx ρ
noncomputable def aH (f g:SF):SF:=fun ρ=>match f ρ with
 | .nx ρ'=>g ρ'
 | o=>o
noncomputable def aQ (f:EF):SF:=fun ρ=>match f (bQ ρ) with
 | some d=>.rt d
 | none=>.no
noncomputable def fD (t:TF) (a b:SF):SF:=fun ρ=>match t (bQ ρ) with
 | some true=>a ρ
 | some false=>b ρ
 | none=>.no
noncomputable def aN (i:Nat) (f:EF):SF:=fun ρ=>match f (jY ρ) with
 | some d=>.nx (ρ.set i (.ro d))
 | none=>.no
noncomputable def tM (i:Nat) (x:XF):SF:=fun ρ=>match x ρ with
 | some p=>.nx (p.1.set i (.ro p.2))
 | none=>.no
noncomputable def fR (i:Nat) (f:EF):SF:=fun ρ=>match f (jY ρ) with
 | some d=>.nx (ρ.set i (.ow d))
 | none=>.no
noncomputable def kJ:D->Bool
 | .lst ds=>nX ds
 | _=>false
noncomputable def rG (i:Nat) (f:EF):SF:=fun ρ=>match f (bQ ρ) with
 | some d=>if kJ d=true then .nx (ρ.set i (.ow d)) else .no
 | none=>.no
noncomputable def rH (i:Nat) (f:EF):SF:=fun ρ=>match f (bQ ρ) with
 | some d=>if kJ d=true then .nx (ρ.set i (.ro d)) else .no
 | none=>.no
noncomputable def BY (i:Nat):SF:=fun ρ=>.nx (ρ.set i (.ow (.iQ [] [])))
noncomputable def sX (x:XF):SF:=fun ρ=>match x ρ with
 | some p=>.nx p.1
 | none=>.no
noncomputable def aEX (i:Nat) (x:XF) (k:EF):SF:=fun ρ=>match ((x ρ).bind fun p=>(mQ p.1[i]?).bind fun ds=>(k (bQ p.1)).bind fun kd=>(asInt kd).bind fun kk=>(V0 ds.length kk).map fun j=>p.1.set i (.ow (.lst (ds.set j p.2)))) with
 | some ρ'=>.nx ρ'
 | none=>.no
noncomputable def tN:Option Sv->Option (List (Sum Int Str)×List D)
 | some (.ow (.iQ ks ds))=>some (ks,ds)
 | _=>none
noncomputable def HK (i:Nat) (x:XF) (k:EF):SF:=fun ρ=>match ((x ρ).bind fun p=>(tN p.1[i]?).bind fun kd=>(k (bQ p.1)).bind fun kv=>(zE kv).bind fun kk =>
  if (iV kd.1 kd.2 kk).isNone=true/\kd.2.length<gX then some (p.1.set i (.ow (.iQ (kd.1++[kk]) (kd.2++[p.2])))) else none) with
 | some ρ'=>.nx ρ'
 | none=>.no
noncomputable abbrev M9:=D->aT->Option aT
noncomputable def pU (i:Nat):M9:=fun d ρ=>some (ρ.set i (.ro d))
noncomputable def nY (i j:Nat):M9:=fun d ρ=>(xN d).map fun p=>(ρ.set i (.ro p.1)).set j (.ro p.2)
noncomputable def gQ (g:M9) (b:SF):List D->aT->Out
 | [],ρ=>.nx ρ
 | d::ds,ρ=>match g d ρ with
  | none=>.no
  | some ρ1=>match b ρ1 with
   | .nx ρ2=>gQ g b ds ρ2
   | o=>o
noncomputable def cR (it:AF) (g:M9) (b:SF):SF:=fun ρ=>match it (jY ρ) with
 | some ds=>gQ g b ds ρ
 | none=>.no
noncomputable def zH (t:TF) (b:SF):Nat->aT->Out
 | 0,_=>.no
 | n+1,ρ=>match t (bQ ρ) with
  | none=>.no
  | some false=>.nx ρ
  | some true=>match b ρ with
   | .nx ρ'=>zH t b n ρ'
   | o=>o
noncomputable def EL:Nat:=1000000
noncomputable def EM (n:Nat) (t:TF) (b:SF):SF:=zH t b n
noncomputable def cV (n:Nat) (ds:List D):aT:=ds.map Sv.ro++List.replicate (n - ds.length) Sv.no
noncomputable def aX (n np:Nat) (b:SF):dP:=fun ds=>if ds.length=np then (match b (cV n ds) with
 | .rt d=>.ok d
 | .nx _=>.ok .non
 | .ex c=>.ex c
 | .no=>.no) else .no
end L4
end
section
namespace L4
open PySem L3
noncomputable def gT:List Int->List Int->Bool
 | [],[]=>false
 | [],_::_=>true
 | _::_,[]=>false
 | a::as,b::bs=>if a=b then gT as bs else decide (a<b)
noncomputable def J1 (t:List Int):List (List Int)->List (List Int)
 | []=>[t]
 | u::us=>if gT u t=true then u::J1 t us else t::u::us
noncomputable def rJ:List (List Int)->List (List Int)
 | []=>[]
 | t::ts=>J1 t (rJ ts)
noncomputable def nZ (t:List Int):D:=.tup (t.map D.int)
noncomputable def V2:D->Option (List Int)
 | .tup ds=>intsOf ds
 | _=>none
noncomputable def mR:List D->Option (List (List Int))
 | []=>some []
 | d::ds=>(V2 d).bind fun t=>(mR ds).map (t :: ·)
noncomputable def iK:List D->Option D
 | [.lst a]=>(mR a).bind fun ts=>if ts.length<64/\ts.all (fun t=>!t.isEmpty)=true then some (.lst ((rJ ts).map nZ)) else none
 | _=>none
theorem EN:∀ a b:List Int,gT a b=true->gT b a=false
 | [],[],h=>by cases h
 | [],_::_,_=>rfl
 | _::_,[],h=>by cases h
 | a::as,b::bs,h=>by
  unfold gT at h ⊢
  by_cases e:a=b
  ·rw [if_pos e] at h; rw [if_pos e.symm]; exact EN as bs h
  ·rw [if_neg e] at h; rw [if_neg (Ne.symm e)]; simp at h ⊢; omega
theorem EO:∀ a b c:List Int,gT b a=false->gT c b=false->gT c a=false
 | [],[],c,h1,h2=>h2
 | [],b::bs,[],h1,h2=>rfl
 | [],b::bs,c::cs,h1,h2=>rfl
 | a::as,[],c,h1,h2=>by cases h1
 | a::as,b::bs,[],h1,h2=>by cases h2
 | a::as,b::bs,c::cs,h1,h2=>by
  unfold gT at h1 h2 ⊢
  by_cases e1:b=a
  ·subst e1
   rw [if_pos rfl] at h1
   by_cases e2:c=b
   ·subst e2; rw [if_pos rfl] at h2 ⊢; exact EO as bs cs h1 h2
   ·rw [if_neg e2] at h2 ⊢; exact h2
  ·rw [if_neg e1] at h1
   by_cases e2:c=b
   ·subst e2; rw [if_neg e1]; exact h1
   ·rw [if_neg e2] at h2
    simp at h1 h2
    rw [if_neg (by omega)]
    simp; omega
theorem NK:∀ a b:List Int,gT a b=false->gT b a=false->a=b
 | [],[],_,_=>rfl
 | [],_::_,h1,_=>by cases h1
 | _::_,[],_,h2=>by cases h2
 | a::as,b::bs,h1,h2=>by
  unfold gT at h1 h2
  by_cases e:a=b
  ·subst e; rw [if_pos rfl] at h1 h2; rw [NK as bs h1 h2]
  ·rw [if_neg e] at h1; rw [if_neg (Ne.symm e)] at h2; simp at h1 h2; omega
theorem pV (t:List Int):∀ l,(J1 t l).Perm (t::l)
 | []=>.refl _
 | u::us=>by
  unfold J1
  by_cases h:gT u t=true
  ·rw [if_pos h]; exact ((pV t us).cons u).trans (.swap t u us)
  ·rw [if_neg h]
theorem jZ:∀ l,(rJ l).Perm l
 | []=>.refl _
 | t::ts=>(pV t _).trans ((jZ ts).cons t)
noncomputable def UpT (l:List (List Int)):Prop:=l.Pairwise fun a b=>gT b a=false
theorem HL (t:List Int):∀ l,UpT l->UpT (J1 t l)
 | [],_=>List.pairwise_singleton _ _
 | u::us,h=>by
  have ⟨h1,h2⟩:=List.pairwise_cons.mp h
  unfold J1
  by_cases e:gT u t=true
  ·rw [if_pos e]
   refine List.pairwise_cons.mpr ⟨fun x hx=>?_,HL t us h2⟩
   rcases List.mem_cons.mp ((pV t us).mem_iff.mp hx) with rfl | hx
   ·exact EN _ _ e
   ·exact h1 x hx
  ·rw [if_neg e]
   have e:gT u t=false:=by simpa using e
   refine List.pairwise_cons.mpr ⟨fun x hx=>?_,h⟩
   rcases (List.mem_cons.mp hx:x=u\/x∈us) with rfl | hx
   ·exact e
   ·exact EO t u x e (h1 x hx)
theorem BZ:∀ l,UpT (rJ l)
 | []=>.nil
 | t::ts=>HL t _ (BZ ts)
theorem HM:∀ {l m:List (List Int)},l.Perm m->UpT l->UpT m->l=m
 | [],m,p,_,_=>by rw [List.nil_perm.mp p]
 | a::l,[],p,_,_=>by have:=p.length_eq; simp at this
 | a::l,b::m,p,h1,h2=>by
  obtain ⟨a1,a2⟩:=List.pairwise_cons.mp h1
  obtain ⟨b1,b2⟩:=List.pairwise_cons.mp h2
  have e:a=b:=by
   have ha:=List.mem_cons.mp (p.mem_iff.mp List.mem_cons_self)
   have hb:=List.mem_cons.mp (p.mem_iff.mpr List.mem_cons_self)
   rcases ha with h | h
   ·exact h
   ·rcases hb with h' | h'
    ·exact h'.symm
    ·exact NK _ _ (b1 a h) (a1 b h')
  subst e
  rw [HM p.cons_inv a2 b2]
noncomputable def aAm (f:D->D->Option Bool):List D->List D->Option Bool
 | d::ds,e::es=>(f d e).bind fun x=>(aAm f ds es).map (x && ·)
 | _,_=>some true
noncomputable def eqP:Nat->D->D->Option Bool
 | _,.int i,.int j=>some (decide (i=j))
 | _,.bl i,.bl j=>if i=j then some true else none
 | _,.str i,.str j=>if i=j then some true else none
 | n+1,.tup a,.tup b=>(aAm (eqP n) a b).map fun r=>r&&decide (a.length=b.length)
 | _,_,_=>none
noncomputable def aAn:D->D->Option D:=fun x y=>(eqP 8 x y).map D.bl
noncomputable def aEY (ρ:aT) (i:Nat):aT:=match ρ[i]? with
 | some (.ow d)=>ρ.set i (.ro d)
 | _=>ρ
noncomputable def aEZ (i:Nat) (f:SF):SF:=fun ρ=>f (aEY ρ i)
noncomputable def aE0:List D->Option D
 | [.lst [d]]=>some (.lst [d])
 | ds=>iK ds
noncomputable def aAo:List D->Option D
 | [.tup a]=>(intsOf a).map fun ns=>.int ns.sum
 | _=>none
noncomputable abbrev RF:=bN->Option Str
noncomputable def aAp:M D->Option Str
 | .ex c=>some c
 | _=>none
noncomputable def rK (R:dP) (t:AF):RF:=fun ρ=>(t ρ).bind fun ds=>aAp (R ds)
noncomputable def zJ (r:RF) (f:SF):SF:=fun ρ=>match r (bQ ρ) with
 | some c=>.ex c
 | none=>f ρ
noncomputable def sU (t:AF) (c:Str):SF:=fun ρ=>match t (bQ ρ) with
 | some ds=>if ds.length<=10 then .ex c else .no
 | none=>.no
noncomputable def aE1 (fb:SF) (fh:Str->Option D):SF:=fun ρ=>match fb ρ with
 | .ex c=>(match fh c with
  | some d=>.rt d
  | none=>.no)
 | o=>o
noncomputable def aAq:D->D->Option D:=mD (fun i j=>decide (0<=j)&&decide (j<=100)&&decide (i.natAbs<2 ^ 1000)) fun i j=>.int (i ^ j.toNat)
noncomputable def aAr (f:EF) (r:RF):RF:=fun ρ=>(f ρ).bind fun _=>r ρ
noncomputable def splitM:D->D->Option D
 | .str x,.str y=>if x.length+2<=gX/\(y.length == 0)=false then some (.lst ((Txt.split x y).map D.str)) else none
 | _,_=>none
noncomputable def ER (i:Nat) (fa fb:EF):XF:=fun ρ=>(mQ ρ[i]?).bind fun ds=>(fa (bQ ρ)).bind fun k=>(asInt k).bind fun kk=>(fb (bQ ρ)).bind fun d =>
 if d.tJ=true/\0<=kk/\kk<=(ds.length:Int)/\ds.length<gX then some (ρ.set i (.ow (.lst (ds.take kk.toNat++d::ds.drop kk.toNat))),.non) else none
noncomputable def aAs:D->Option D
 | .lst ds=>some (.lst ds.reverse)
 | _=>none
noncomputable def NL (f:EF):EF:=fun ρ=>(f ρ).bind aAs
noncomputable def XI (x:XF) (g:M9):SF:=fun ρ=>match (x ρ).bind fun p=>g p.2 p.1 with
 | some ρ'=>.nx ρ'
 | none=>.no
noncomputable def aE2:D->D->Option Bool
 | .lst a,.lst b=>(intsOf a).bind fun x=>(intsOf b).map fun y=>decide (x=y)
 | _,_=>none
noncomputable def SE (f:SF):SF:=fun ρ=>match f ρ with
 | .ex _=>.no
 | o=>o
noncomputable def putN (ns:List Int) (k:Int):List Int:=if k∈ns then ns else ns++[k]
noncomputable def zK (ns:List Int):List Int:=ns.foldl putN []
noncomputable def fF:List D->Option D
 | [.tup ds]=>(intsOf ds).bind fun ns=>if ns.length<64 then some (.lst ((sortI (zK ns)).map D.int)) else none
 | _=>none
noncomputable def aE3 (i j:Nat) (t:AF):SF:=fun ρ=>match t (jY ρ) with
 | some [x,y]=>.nx ((ρ.set i (.ro x)).set j (.ro y))
 | _=>.no
noncomputable def NM:List D->Option D
 | [.tup ds]=>(intsOf ds).bind fun ns=>if ns.length<64 then some (.lst ((sortI ns).map D.int)) else none
 | _=>none
noncomputable abbrev aE4:Nat->Obj->Prop:=fun _ _=>True
noncomputable def adr (q:Nat->Obj->Prop):Nat->Obj->Prop:=fun a _=>∃ o,q a o
noncomputable abbrev ES:=Sum Int Str
noncomputable abbrev PN1:=List (Sum ES (List ES))
noncomputable abbrev xO:=Sum ES PN1
noncomputable def V3:List D->Option (List ES)
 | []=>some []
 | d::ds=>(zE d).bind fun k=>(V3 ds).map (k :: ·)
noncomputable def aAt:D->Option (Sum ES (List ES))
 | .tup ds=>(V3 ds).map .inr
 | d=>(zE d).map .inl
noncomputable def NN:List D->Option PN1
 | []=>some []
 | d::ds=>(aAt d).bind fun k=>(NN ds).map (k :: ·)
noncomputable def SG:D->Option xO
 | .tup ds=>(NN ds).map .inr
 | d=>(zE d).map .inl
noncomputable def gY (ks:List xO) (ds:List D) (k:xO):Option D:=((ks.zip ds).find? fun p=>decide (p.1=k)).map (·.2)
noncomputable def kindB (ks:List xO) (k:xO):Bool:=ks.all fun q=>q.isLeft == k.isLeft
noncomputable def XJ:D->D->Option D
 | .iH _ ks ds,d=>(SG d).bind fun k=>if kindB ks k=true then gY ks ds k else none
 | _,_=>none
noncomputable def XM (neg:Bool):D->D->Option D
 | d,.iH _ ks ds=>(SG d).bind fun k=>if kindB ks k=true then some (.bl (if neg then !(gY ks ds k).isSome else (gY ks ds k).isSome)) else none
 | _,_=>none
noncomputable def kK (ks:List xO) (ds:List D) (k:xO) (v:D):List xO×List D :=
 if ks.any (fun q=>decide (q=k))=true then (ks,(ks.zip ds).map fun p=>if p.1=k then v else p.2) else (ks++[k],ds++[v])
noncomputable def XN:Option Sv->Option ((Nat->Obj->Prop)×List xO×List D)
 | some (.ow (.iH q ks ds))=>some (q,ks,ds)
 | _=>none
noncomputable def aAu (i:Nat):SF:=fun ρ=>.nx (ρ.set i (.ow (.iH aE4 [] [])))
noncomputable def NO (i:Nat) (x:XF) (k:EF):SF:=fun ρ=>match ((x ρ).bind fun p=>(XN p.1[i]?).bind fun kd=>(k (bQ p.1)).bind fun kv=>(SG kv).bind fun kk =>
  if kindB kd.2.1 kk=true/\kd.2.2.length<gX then some (p.1.set i (.ow (.iH (adr kd.1) (kK kd.2.1 kd.2.2 kk p.2).1 (kK kd.2.1 kd.2.2 kk p.2).2))) else none) with
 | some ρ'=>.nx ρ'
 | none=>.no
noncomputable def aAv:List D->Option (List D)
 | [.lst xs,.lst ys]=>some ((xs.zip ys).map fun p=>.tup [p.1,p.2])
 | _=>none
noncomputable def NP (t:AF):AF:=fun ρ=>(t ρ).bind aAv
noncomputable def aE5:List Int->Int
 | []=>0
 | a::l=>l.foldl (fun m b=>if b<m then b else m) a
noncomputable def V4:List D->Option D
 | [.tup ds]=>(intsOf ds).bind fun ns=>if ns=[] then none else some (.int (aE5 ns))
 | _=>none
noncomputable def aE6:D->D->Option D:=fun x y=>(aE2 x y).map D.bl
noncomputable abbrev KD:=List xO×List D
noncomputable abbrev FnM:=List D->KD->M (D×KD)
noncomputable def startM (n:Nat) (ds:List D) (q:Nat->Obj->Prop) (kd:KD):aT:=ds.map Sv.ro++Sv.ow (.iH q kd.1 kd.2)::List.replicate (n - (ds.length+1)) Sv.no
noncomputable def aE7 (j:Nat) (k:EF) (q:Nat->Obj->Prop):aT->Option (D×KD):=fun ρ=>(XN ρ[j]?).bind fun kd=>(k (jY ρ)).bind fun kv=>(SG kv).bind fun kk=>@ite _ (kindB kd.2.1 kk=true /\ ∀ a o,kd.1 a o -> ∃ o2,q a o2) (Classical.propDecidable _) ((gY kd.2.1 kd.2.2 kk).map fun d=>(d,kd.2)) none
noncomputable def aAx (n np:Nat) (b:SF) (k:EF) (q:Nat->Obj->Prop) (ds:List D) (kd:KD):Option (D×KD):=if ds.length+1=np then (match b (startM n ds q kd) with
 | .nx ρ=>aE7 (np - 1) k q ρ
 | _=>none) else none
noncomputable def runM (n np:Nat) (b:SF) (k:EF):FnM:=fun ds kd=>@dite _ (∃ r,∀ q,aAx n np b k q ds kd=some r) (Classical.propDecidable _) (fun h=>.ok h.choose) fun _=>.no
noncomputable def stepM (R:FnM) (t:AF) (j:Nat) (ρ:aT):Option ((Nat->Obj->Prop)×D×KD):=(t (jY ρ)).bind fun ds=>(XN ρ[j]?).bind fun kd=>match R ds kd.2 with
 | .ok r=>some (kd.1,r)
 | _=>none
noncomputable def XO (i:Nat) (R:FnM) (t:AF) (j:Nat):SF:=fun ρ=>match stepM R t j ρ with
 | some r=>.nx ((ρ.set j (.ow (.iH (adr r.1) r.2.2.1 r.2.2.2))).set i (.ro r.2.1))
 | none=>.no
noncomputable def aE8 (R:FnM) (t:AF) (j:Nat):SF:=fun ρ=>match stepM R t j ρ with
 | some r=>.nx (ρ.set j (.ow (.iH (adr r.1) r.2.2.1 r.2.2.2)))
 | none=>.no
noncomputable def jB:List D->Option D
 | [.int i]=>if i.natAbs<1900 then some (.str (Str.ofString (toString i))) else none
 | _=>none
noncomputable def B0:List D->Option D
 | [.str x]=>if x.length<=gX then some (.int x.length) else none
 | _=>none
noncomputable def ET:List D->Option D
 | [.str x]=>match x.cps.toList with
  | [c]=>if 48<=c/\c<=57 then some (.int ((c:Int) - 48)) else none
  | _=>none
 | _=>none
noncomputable def tO:D->D->Option D
 | .str x,.int i=>if x.length<=gX then (wL x.cps.toList i).map fun c=>.str ⟨#[c]⟩ else none
 | _,_=>none
noncomputable def SH:D->D->Option D
 | .str x,.str y=>some (.bl (!(Builtin.Str.occurrences y x 0 y.length 1).isEmpty))
 | _,_=>none
noncomputable def B1:D->D->Option D
 | .str x,.str y=>if x.length+y.length<=gX then some (.str (x++y)) else none
 | _,_=>none
noncomputable def tP:List D->Option (List Str)
 | []=>some []
 | .str x::r=>(tP r).map (x :: ·)
 | _::_=>none
noncomputable def joinM:D->D->Option D
 | .str s,.lst ds=>(tP ds).bind fun ys=>if (ys.map (·.length)).sum+ys.length*s.length<=gX then some (.str (Txt.join s ys)) else none
 | _,_=>none
noncomputable def NQ:D->D->D->Option D
 | .str x,.str y,.str z=>if x.length+y.length+z.length<=gX then some (.str (Str.empty++x++y++z)) else none
 | _,_,_=>none
noncomputable def HN (a b c:EF):EF:=fun ρ=>(a ρ).bind fun x=>(b ρ).bind fun y=>(c ρ).bind fun z=>NQ x y z
end L4
end
section
namespace Ord
structure Rows (rows:List (List Int)):Prop where
 up:∀ (b:Nat) (r:List Int),rows[b]? = some r->r.Pairwise (·<·)
 rng:∀ (b:Nat) (r:List Int),rows[b]? = some r -> ∀ a∈r,0<=a/\a<(rows.length:Int)
 tr:∀ (b a:Nat) (r v:List Int),rows[b]? = some r->(a:Int)∈r->rows[a]? = some v -> ∀ c∈v,c∈r
 R7:∀ (b:Nat) (r:List Int),rows[b]? = some r->(b:Int)∉r
theorem tQ {α:Type}:∀ (l:List α) (j:Nat) (x:α),l[j]? = some x->(x::l.eraseIdx j).Perm l
 | [],j,x,h=>by simp at h
 | a::l,0,x,h=>by simp at h; subst h; simp
 | a::l,j+1,x,h=>by
  have ih:=tQ l j x (by simpa using h)
  rw [List.eraseIdx_cons_succ]
  exact (List.Perm.swap a x _).trans (ih.cons a)
theorem zL {l:List Int} (p:Int->Bool) (h:l.Nodup):(l.filter p).Nodup:=List.Pairwise.filter p h
noncomputable def Under (word:List Int) (us:List (List Int)) (t:Nat) (u:List Int):Prop :=
 u.Nodup /\ ∀ a∈u,∃ (s:Nat) (v:List Int),s<t/\word[s]? = some a/\us[s]? = some v /\ ∀ c∈v,c∈u
noncomputable def Good (word:List Int) (us:List (List Int)):Prop:=∀ (t:Nat) (u:List Int),us[t]? = some u->Under word us t u
theorem Under.mono {word:List Int} {us:List (List Int)} {t t':Nat} {u:List Int} (h:Under word us t u) (ht:t<=t'):Under word us t' u :=
 ⟨h.1,fun a ha=>by obtain ⟨s,v,h1,h2,h3,h4⟩:=h.2 a ha; exact ⟨s,v,by omega,h2,h3,h4⟩⟩
theorem tT {word:List Int} (h:word.Nodup) {i j:Nat} {a:Int} (hi:word[i]? = some a) (hj:word[j]? = some a):i=j:=by
 obtain ⟨h1,e1⟩:=List.getElem?_eq_some_iff.mp hi
 obtain ⟨h2,e2⟩:=List.getElem?_eq_some_iff.mp hj
 exact (List.getElem_inj h).mp (e1.trans e2.symm)
theorem Under.step {word:List Int} {us:List (List Int)} {i:Nat} {u v:List Int} {x:Int} (hw:word.Nodup) (g:Good word us) (h:Under word us i u) (hx:word[i]? = some x) (hv:us[i]? = some v) :
  Under word us (i+1) (u++(v++[x]).filter fun a=>!u.contains a):=by
 have gv:=g i v hv
 have mem:∀ c,c∈v++[x]->c∈u++(v++[x]).filter fun a=>!u.contains a:=fun c hc=>by
  by_cases hu:c∈u
  ·exact List.mem_append_left _ hu
  ·exact List.mem_append_right _ (List.mem_filter.mpr ⟨hc,by simpa using hu⟩)
 have nv:(v++[x]).Nodup:=by
  refine List.nodup_append.mpr ⟨gv.1,by simp,fun a ha b hb e=>?_⟩
  have hb:=List.mem_singleton.mp hb
  subst hb
  subst e
  obtain ⟨s,_,h1,h2,_⟩:=gv.2 a ha
  have:=tT hw h2 hx
  omega
 refine ⟨List.nodup_append.mpr ⟨h.1,zL _ nv,fun a ha b hb e=>?_⟩,fun a ha=>?_⟩
 ·subst e
  have:=(List.mem_filter.mp hb).2
  simp at this
  exact this ha
 ·rcases List.mem_append.mp ha with h1 | h1
  ·obtain ⟨s,z,a1,a2,a3,a4⟩:=h.2 a h1
   exact ⟨s,z,by omega,a2,a3,fun c hc=>List.mem_append_left _ (a4 c hc)⟩
  ·rcases List.mem_append.mp (List.mem_filter.mp h1).1 with h2 | h2
   ·obtain ⟨s,z,a1,a2,a3,a4⟩:=gv.2 a h2
    exact ⟨s,z,by omega,a2,a3,fun c hc=>mem c (List.mem_append_left _ (a4 c hc))⟩
   ·have e:=List.mem_singleton.mp h2
    subst e
    exact ⟨i,v,by omega,hx,hv,fun c hc=>mem c (List.mem_append_left _ hc)⟩
theorem Good.snoc {word:List Int} {us:List (List Int)} {u:List Int} (g:Good word us) (h:Under word us us.length u):Good word (us++[u]):=fun t z e=>by
 have old:∀ {s:Nat} {v:List Int},us[s]? = some v->(us++[u])[s]? = some v:=fun {s v} e=>by rw [List.getElem?_append_left (List.getElem?_eq_some_iff.mp e).1]; exact e
 have up:∀ {t:Nat} {z:List Int},Under word us t z->Under word (us++[u]) t z:=fun {t z} q=>⟨q.1,fun a ha=>by obtain ⟨s,v,a1,a2,a3,a4⟩:=q.2 a ha; exact ⟨s,v,a1,a2,old a3,a4⟩⟩
 by_cases ht:t<us.length
 ·rw [List.getElem?_append_left ht] at e
  exact up (g t z e)
 ·have et:t=us.length:=by
   have:=(List.getElem?_eq_some_iff.mp e).1
   simp at this
   omega
  subst et
  rw [List.getElem?_append_right (Nat.le_refl _),Nat.sub_self] at e
  have e:u=z:=by simpa using e
  subst e
  exact up h
theorem Good.rows {word:List Int} {us rows:List (List Int)} {n:Nat} (g:Good word us) (hu:us.length=n) (hw:word.Perm ((List.range n).map fun k:Nat=>(k:Int))) (hr:rows.length=n)
  (h:∀ (b t:Nat) (r u:List Int),rows[b]? = some r->word[t]? = some (b:Int)->us[t]? = some u->r.Perm u/\r.Pairwise (· <= ·)):Rows rows:=by
 have nd:word.Nodup:=hw.nodup_iff.mpr (by
  refine List.Pairwise.map _ (fun a b hab=>?_) List.nodup_range
  intro e
  exact hab (by omega))
 have find:∀ (b:Nat),b<n -> ∃ t u,word[t]? = some (b:Int)/\us[t]? = some u:=fun b hb=>by
  have hm:(b:Int)∈word:=hw.mem_iff.mpr (List.mem_map.mpr ⟨b,List.mem_range.mpr hb,rfl⟩)
  obtain ⟨t,ht⟩:=List.mem_iff_getElem?.mp hm
  have hl:word.length=n:=by rw [hw.length_eq,List.length_map,List.length_range]
  have:=(List.getElem?_eq_some_iff.mp ht).1
  exact ⟨t,us[t]'(by omega),ht,List.getElem?_eq_getElem (by omega)⟩
 have row:∀ (b:Nat) (r:List Int),rows[b]? = some r -> ∃ t u,word[t]? = some (b:Int)/\us[t]? = some u/\r.Perm u/\r.Pairwise (· <= ·):=fun b r e=>by
  have hb:=(List.getElem?_eq_some_iff.mp e).1
  obtain ⟨t,u,h1,h2⟩:=find b (by omega)
  exact ⟨t,u,h1,h2,h b t r u e h1 h2⟩
 refine ⟨fun b r e=>?_,fun b r e a ha=>?_,fun b a r v e ha ev c hc=>?_,fun b r e hb=>?_⟩
 ·obtain ⟨t,u,h1,h2,h3,h4⟩:=row b r e
  have n1:r.Nodup:=h3.nodup_iff.mpr (g t u h2).1
  exact (List.pairwise_and_iff.mpr ⟨h4,n1⟩).imp fun q=>by have:=q.1; have:=q.2; omega
 ·obtain ⟨t,u,h1,h2,h3,h4⟩:=row b r e
  obtain ⟨s,z,_,a2,_⟩:=(g t u h2).2 a (h3.mem_iff.mp ha)
  have hm:=hw.mem_iff.mp (List.mem_of_getElem? a2)
  obtain ⟨k,hk,rfl⟩:=List.mem_map.mp hm
  have:=List.mem_range.mp hk
  omega
 ·obtain ⟨t,u,h1,h2,h3,h4⟩:=row b r e
  obtain ⟨t2,u2,k1,k2,k3,k4⟩:=row a v ev
  obtain ⟨s,z,_,a2,a3,a4⟩:=(g t u h2).2 _ (h3.mem_iff.mp ha)
  have es:=tT nd a2 k1
  subst es
  rw [k2] at a3
  cases a3
  exact h3.mem_iff.mpr (a4 c (k3.mem_iff.mp hc))
 ·obtain ⟨t,u,h1,h2,h3,h4⟩:=row b r e
  obtain ⟨s,z,a1,a2,_⟩:=(g t u h2).2 _ (h3.mem_iff.mp hb)
  have:=tT nd a2 h1
  omega
noncomputable def tri:Nat->Nat
 | 0=>0
 | j+1=>tri j+j
theorem NR {i j:Nat} (h:i<=j):tri i<=tri j:=by
 induction h with
 | refl=>exact Nat.le_refl _
 | step _ ih=>exact Nat.le_trans ih (Nat.le_add_right _ _)
theorem XQ {n j i:Nat} (hj:j<n) (hi:i<j):tri j+i<tri n:=by
 have:=NR (show j+1<=n by omega)
 show tri j+i<tri n
 have e:tri (j+1)=tri j+j:=rfl
 omega
theorem eJ:∀ (l m:List Int),l.Nodup->(∀ a∈l,a∈m)->l.length<=m.length
 | [],m,_,_=>Nat.zero_le _
 | a::l,m,h,hs=>by
  obtain ⟨h1,h2⟩:=List.nodup_cons.mp h
  have ha:=hs a List.mem_cons_self
  have ih:=eJ l (m.erase a) h2 fun b hb=>by
   have:b≠a:=fun e=>h1 (e▸hb)
   exact (List.mem_erase_of_ne this).mpr (hs b (List.mem_cons_of_mem _ hb))
  rw [List.length_erase_of_mem ha] at ih
  have:0<m.length:=List.length_pos_of_mem ha
  rw [List.length_cons]
  omega
end Ord
end
section
namespace LL
open PySem L3 L4
noncomputable def dB:dP:=aX 2 2
  (aH (fD (tV (aE jI (bA bL (aA (aB 0) aC)) (eC (.int 0))))
   (aQ (eC (.int 0)))
   cM)
  (aQ (aE bZ (aB 0) (aE cJ (aB 1) (bA bL (aA (aB 0) aC))))))
noncomputable def eT:dP:=aX 5 3
  (aH (aN 3 (aE cJ (aE mulM (aE bM (aE bM (aE bM (aB 0) (aE mulM (aE mulM (eC (.int 11)) (aB 1)) (aB 1))) (aE mulM (eC (.int 17)) (aB 1))) (aB 2)) (eC (.int 48271))) (eC (.int 2147483647))))
  (aH (aN 4 (aE cJ (aE bM (aE bM (aE mulM (aB 3) (aE bM (aE kH (aB 3) (eC (.int 4096))) (eC (.int 5)))) (aE mulM (eC (.int 29)) (aB 1))) (aB 2)) (eC (.int 2147483629))))
  (aQ (aE cJ (aE mulM (aB 4) (eC (.int 39373))) (eC (.int 1000000007))))))
noncomputable def cK:dP:=aX 6 3
  (aH (fR 3 (dD aC))
  (aH (aN 4 (eC (.int 0)))
  (aH (fD (tV (aE geM (aB 0) (aE BS (eC (.int 10)) (eC (.int 18)))))
   (aN 4 (aB 0))
   cM)
  (aH (cR (aV (aA (aB 1) aC)) (pU 5)
   (fD (tV (aE EC (aB 4) (eC (.int 0))))
    (aH (sX (iR 3 eF (aM (aE cJ (aB 4) (eC (.int 64))))))
    (aN 4 (aE kH (aB 4) (eC (.int 64)))))
    (sX (iR 3 eF (aM (aF LL.eT (aA (aB 0) (aA (aB 5) (aA (aB 2) aC)))))))))
  (aQ (aB 3))))))
noncomputable def aZ:Nat->dP
 | 0=>fun _=>.no
 | n+1=>aX 2 2
  (aH (fD (tV (iI "tuple" (aB 1)))
   (aH (fD (mC (fE (tV (iI "tuple" (aB 0)))) (tV (aE R5 (bA bL (aA (aB 0) aC)) (bA bL (aA (aB 1) aC)))))
    (aQ (eC (.bl false)))
    cM)
   (aQ (bA allM (aA (bC 1 [0,1] (aV (aA (bA bL (aA (aB 1) aC)) aC)) (g1 0) bF (aF (aZ n) (aA (aE bZ (aB 1) (aB 0)) (aA (aE bZ (aB 2) (aB 0)) aC)))) aC))))
   cM)
  (aH (fD (tV (aE R6 (aB 1) (eC .non)))
   (aQ (aE R6 (aB 0) (eC .non)))
   cM)
  (aH (fD (tV (iI "bool" (aB 1)))
   (aQ (fZ (iI "bool" (aB 0)) (aE jI (aB 0) (aB 1))))
   cM)
  (aH (fD (tV (iI "int" (aB 1)))
   (aQ (fZ (iI "int" (aB 0)) (fZ (sL (iI "bool" (aB 0))) (aE jI (aB 0) (aB 1)))))
   cM)
  (aQ (fZ (iI "str" (aB 0)) (aE jI (aB 0) (aB 1))))))))
noncomputable def gA:dP:=aX 11 3
  (aH (fR 3 (EI (aA (aB 1) aC)))
  (aH (fR 4 (dD aC))
  (aH (cR (aV (aA (aB 1) aC)) (pU 5)
   (sX (iR 4 eF (iR 3 NI (mE (aE cJ (aE bZ (aB 0) (aB 5)) (bA bL (aA (aB 3) aC))))))))
  (aH (BY 6)
  (aH (aN 7 (aB 1))
  (aH (cR (aV (aA (aB 1) aC)) (pU 8)
   (aH (aN 9 (dD aC))
   (aH (cR (aV (aA (aB 8) aC)) (pU 10)
    (aH (fD (tV (aE R4 (aE cJ (aE bZ (aB 0) (aB 7)) (eC (.int 4))) (aB 2)))
     (rH 9 (aE zF (aB 9) (bC 1 [9] (bE (aE bM (aE tL (aB 6) (aE bZ (aB 4) (aB 10))) (dD (aA (aE bZ (aB 4) (aB 10)) aC)))) (g1 0) (tV (aE (jX true) (aB 0) (aB 1))) (aB 0))))
     cM)
    (aN 7 (aE bM (aB 7) (eC (.int 1))))))
   (HK 6 (aM (aB 9)) (aE bZ (aB 4) (aB 8))))))
  (aQ (bA bH (aA (bC 1 [6] (aV (aA (aB 1) aC)) (g1 0) bF (bA bH (aA (bA fC (aA (aE tL (aB 1) (aB 0)) aC)) aC))) aC)))))))))
noncomputable def dQ:dP:=aX 7 4
  (aH (aN 4 (aF LL.cK (aA (aF LL.dB (aA (aB 0) (aA (aB 1) aC))) (aA (eC (.int 4)) (aA (aB 3) aC)))))
  (aH (aN 5 (aE cJ (aE bZ (aB 4) (eC (.int 0))) (aE bM (aB 2) (eC (.int 1)))))
  (aH (aN 6 (aF LL.cK (aA (aF LL.dB (aA (aB 0) (aA (aE bM (aB 1) (eC (.int 1))) aC))) (aA (aE bM (aB 5) (aE kH (aE mulM (aB 5) (aE e9 (aB 5) (eC (.int 1)))) (eC (.int 2)))) (aA (aE bM (aB 3) (eC (.int 10007))) aC)))))
  (aQ (aF LL.gA (aA (aB 6) (aA (aB 5) (aA (aE bZ (dD (aA (eC (.int 1)) (aA (eC (.int 1)) (aA (eC (.int 2)) (aA (eC (.int 2)) (aA (eC (.int 3)) (aA (eC (.int 1)) (aA (eC (.int 0)) (aA (eC (.int 4)) aC))))))))) (aE cJ (aE bZ (aB 4) (eC (.int 1))) (eC (.int 8)))) aC))))))))
noncomputable def tupI (xs:List Int):D:=.tup (xs.map D.int)
noncomputable def aL (xs:List Int):D:=.lst (xs.map D.int)
noncomputable def aY (rows:List (List Int)):D:=.tup (rows.map tupI)
theorem n0 {i j:Int}:bM (.int i) (.int j)=some (.int (i+j)):=rfl
theorem tU {i j:Int}:e9 (.int i) (.int j)=some (.int (i - j)):=rfl
theorem dG {i j:Int} (h:0<j):cJ (.int i) (.int j)=some (.int (i % j)):=by simp [cJ,mD,h]
theorem n5 {i j:Int} (h:0<j) (h2:j<1073741824):kH (.int i) (.int j)=some (.int (i / j)):=by simp [kH,mD,h,show j.natAbs<1073741824 by omega]
theorem sV {i j:Int}:R4 (.int i) (.int j)=some (.bl (decide (i<j))):=rfl
theorem sW {i j:Int}:leM (.int i) (.int j)=some (.bl (decide (i<=j))):=rfl
theorem sY {i j:Int}:EC (.int i) (.int j)=some (.bl (decide (j<i))):=rfl
theorem zM {i j:Int}:geM (.int i) (.int j)=some (.bl (decide (j<=i))):=rfl
theorem eU {i j:Int}:jI (.int i) (.int j)=some (.bl (decide (i=j))):=rfl
theorem zN {i j:Int}:R5 (.int i) (.int j)=some (.bl (!decide (i=j))):=rfl
theorem pW {i j:Bool}:jI (.bl i) (.bl j)=some (.bl (decide (i=j))):=rfl
theorem j0 {i j:Str}:jI (.str i) (.str j)=some (.bl (decide (i=j))):=rfl
theorem zP {d:D}:R6 d .non=some (.bl (tK d)):=rfl
theorem sZ {a:List D} {i:Int}:bZ (.lst a) (.int i)=wL a i:=rfl
theorem tB {a:List D} {i:Int}:bZ (.tup a) (.int i)=wL a i:=rfl
theorem zQ {a:List Int} {i:Int}:bZ (.nW a) (.int i)=(wL a i).map D.int:=rfl
theorem kL {a:List D}:bL [.lst a]=some (.int a.length):=rfl
theorem n6 {a:List D}:bL [.tup a]=some (.int a.length):=rfl
theorem tW {a:List Int}:bL [.nW a]=some (.int a.length):=rfl
theorem mS {a:List D}:bH [.lst a]=some (.tup a):=rfl
theorem mT {a:List D}:bH [.tup a]=some (.tup a):=rfl
theorem pX {a:List D}:BV [.lst a]=some (.lst a):=rfl
theorem pZ {a:List D}:BV [.tup a]=some (.lst a):=rfl
theorem p4 {a:List D}:BW (.lst a)=some a:=rfl
theorem p5 {a:List D}:BW (.tup a)=some a:=rfl
theorem p6 {b:Bool}:kF (.bl b)=some b:=rfl
theorem mU {b:List D}:kF (.lst b)=some (!b.isEmpty):=rfl
theorem mV {b:List D}:kF (.tup b)=some (!b.isEmpty):=rfl
theorem kM {b:Bool}:rF (.bl b)=some b:=rfl
theorem lG {ds:List D} {d:D} (h:ds.length<16777216):eF ds d=some (ds++[d],.non):=if_pos h
theorem SI {ds es:List D} (h:ds.length+es.length<=16777216):BX ds (.lst es)=some (ds++es,.non):=if_pos h
theorem p7 {ds:List D}:HJ [.tup ds]=some (ds.zipIdx.map fun p=>.tup [.int (p.2:Int),p.1]):=rfl
theorem p8 {ds:List D}:HJ [.lst ds]=some (ds.zipIdx.map fun p=>.tup [.int (p.2:Int),p.1]):=rfl
theorem tX {ds:List D}:XH [.tup ds]=some ds.reverse:=rfl
theorem tY {ds:List D}:XH [.lst ds]=some ds.reverse:=rfl
theorem HP {t:AF} {ρ:bN} {ds:List D} (h:t ρ=some ds) (hl:ds.length<=16777216):dE t ρ=some (.tup ds):=by
 unfold dE; rw [h]; exact if_pos hl
theorem gR {n np:Nat} {b:SF} {ds:List D} {d:D} (hl:ds.length=np) (h:b (cV n ds)=.rt d):aX n np b ds=.ok d:=by
 unfold aX; rw [if_pos hl,h]
theorem cN {f g:SF} {ρ:aT} {o:Out} (ρ':aT) (h1:f ρ=.nx ρ') (h2:g ρ' = o):aH f g ρ=o:=by
 unfold aH; rw [h1]; exact h2
theorem NS {f g:SF} {ρ:aT} {d:D} (h1:f ρ=.rt d):aH f g ρ=.rt d:=by
 unfold aH; rw [h1]
theorem gU {f:EF} {ρ:aT} {d:D} (h:f (bQ ρ)=some d):aQ f ρ=.rt d:=by
 unfold aQ; rw [h]
theorem iS {i:Nat} {f:EF} {ρ:aT} (d:D) {ρ':aT} (h:f (jY ρ)=some d) (hr:ρ.set i (.ro d)=ρ'):aN i f ρ=.nx ρ':=by
 unfold aN; rw [h,<- hr]
theorem XR {t:TF} {a b:SF} {ρ:aT} {o:Out} (h:t (bQ ρ)=some true) (h2:a ρ=o):fD t a b ρ=o:=by
 unfold fD; rw [h]; exact h2
theorem BP {t:TF} {a b:SF} {ρ:aT} {o:Out} (h:t (bQ ρ)=some false) (h2:b ρ=o):fD t a b ρ=o:=by
 unfold fD; rw [h]; exact h2
theorem SJ {it:AF} {g:M9} {b:SF} {ρ:aT} {o:Out} (ds:List D) (h:it (jY ρ)=some ds) (h2:gQ g b ds ρ=o):cR it g b ρ=o:=by
 unfold cR; rw [h]; exact h2
theorem j9 {nl:Nat} {fr:List Nat} {it:AF} {g:EK} {t:TF} {e:EF} {ρ:bN} (ds:List D) {ys:List D} (h:it ρ=some ds) (hl:ds.length<=16777216) (h2:iJ g t e (benv nl fr ρ) ds=some ys):bC nl fr it g t e ρ=some (.lst ys):=by
 unfold bC; rw [h]
 show (if ds.length<=gX then _ else _)=_
 rw [if_pos (show ds.length<=gX from hl),h2]; rfl
theorem B2 {a b:List D} (h:a.length+b.length<=16777216):bM (.lst a) (.lst b)=some (.lst (a++b)):=if_pos h
theorem B3 {a b:List D} (h:a.length+b.length<=16777216):bM (.tup a) (.tup b)=some (.tup (a++b)):=if_pos h
theorem NT {a b:List D} (h:a.length+b.length<=16777216):zF (.lst a) (.lst b)=some (.lst (a++b)):=if_pos h
theorem tZ {i j:Int} (h:i.natAbs<18446744073709551616):mulM (.int i) (.int j)=some (.int (i*j)):=by
 simp [mulM,mD,BR,h]
theorem EU {i j:Int} (h:j.natAbs<18446744073709551616):mulM (.int i) (.int j)=some (.int (i*j)):=by
 simp [mulM,mD,BR,h]
theorem B4 {j:Int} (h:j.natAbs<4611686018427387904):EJ [.int j]=some ((cQ 0 j.toNat).map D.int):=if_pos h
theorem n8 {n:Nat} (h:n<4611686018427387904):EJ [.int (n:Int)]=some ((cQ 0 n).map D.int):=by
 rw [B4 (by omega)]; rfl
theorem fG:∀ ns:List Int,intsOf (ns.map D.int)=some ns
 | []=>rfl
 | n::ns=>by simp [intsOf,fG ns]
theorem tD {neg:Bool} {i:Int} {ns:List Int}:jX neg (.int i) (.tup (ns.map D.int))=some (.bl (if neg then !ns.contains i else ns.contains i)):=by simp [jX,fG]
theorem zR {neg:Bool} {i:Int} {ns:List Int}:jX neg (.int i) (.lst (ns.map D.int))=some (.bl (if neg then !ns.contains i else ns.contains i)):=by simp [jX,fG]
theorem sorted_ints {ns:List Int} (h:ns.length<64):fC [.lst (ns.map D.int)]=some (.lst ((sortI ns).map D.int)):=by simp [fC,fG,h]
theorem p9:∀ bs:List Bool,mP (bs.map D.bl)=some bs
 | []=>rfl
 | b::bs=>by simp [mP,kF,p9 bs]
theorem HQ {bs:List Bool}:allM [.lst (bs.map D.bl)]=some (.bl (bs.all id)):=by simp [allM,p9]
theorem HR {bs:List Bool}:anyM [.lst (bs.map D.bl)]=some (.bl (bs.any id)):=by simp [anyM,p9]
theorem zS {n:Nat} {i:Int} (h0:0<=i) (h1:i<n):V0 n i=some i.toNat:=by
 unfold V0; rw [if_pos h0,if_pos h1]
theorem SK {n k:Nat} (h:k<n):V0 n (k:Int)=some k:=by
 rw [zS (by omega) (by omega)]; rfl
theorem SM {α:Type} {xs:List α} {k:Nat} (h:k<xs.length):wL xs (k:Int)=xs[k]?:=by
 unfold wL; rw [SK h]; rfl
theorem zT {α:Type} {xs:List α} {i:Int} (h0:0<=i) (h1:i<xs.length):∃ x∈xs,wL xs i=some x/\xs[i.toNat]? = some x:=by
 have hl:i.toNat<xs.length:=by omega
 refine ⟨xs[i.toNat],List.getElem_mem hl,?_,by simp [hl]⟩
 unfold wL; rw [zS h0 h1]; simp [hl]
theorem tE {α β:Type} (f:α->β) (xs:List α) (i:Int):wL (xs.map f) i=(wL xs i).map f:=by
 unfold wL
 rw [List.length_map]
 cases V0 xs.length i with
 | none=>rfl
 | some j=>simp
theorem tF {α:Type} {xs:List α} {k:Nat} {x:α} (h:xs[k]? = some x):wL xs (k:Int)=some x:=by
 rw [SM (List.getElem?_eq_some_iff.mp h).1,h]
theorem bV (lo:Int) (n:Nat):(cQ lo n).length=n:=by simp [cQ]
theorem B5 {lo:Int} {n i:Nat} (h:i<n):(cQ lo n)[i]? = some (lo+(i:Int)):=by simp [cQ,h]
theorem J3 (lo:Int) (n:Nat):cQ lo (n+1)=cQ lo n++[lo+(n:Int)]:=by simp [cQ,List.range_succ]
theorem dH {lo:Int} {n:Nat} {x:Int}:x∈cQ lo n↔lo<=x/\x<lo+n:=by
 unfold cQ
 rw [List.mem_map]
 simp only [List.mem_range]
 constructor
 ·rintro ⟨k,hk,rfl⟩; omega
 ·rintro ⟨h1,h2⟩; exact ⟨(x - lo).toNat,by omega,by omega⟩
theorem B6 {g:M9} {b:SF} (P:Nat->aT->Prop) (ds:List D) {ρ:aT} (h0:P 0 ρ) (step:∀ (i:Nat) (d:D) (ρ:aT),ds[i]? = some d->P i ρ -> ∃ ρ1 ρ2,g d ρ=some ρ1/\b ρ1=.nx ρ2/\P (i+1) ρ2) :
  ∃ ρ',gQ g b ds ρ=.nx ρ'/\P ds.length ρ':=by
 suffices H:∀ (l:List D) (k:Nat) (ρ:aT),ds.drop k=l->k<=ds.length->P k ρ -> ∃ ρ',gQ g b l ρ=.nx ρ'/\P ds.length ρ' from H ds 0 ρ (by simp) (Nat.zero_le _) h0
 intro l
 induction l with
 | nil =>
  intro k ρ hl hk hp
  have:ds.length<=k:=by simpa using hl
  exact ⟨ρ,rfl,by rwa [show ds.length=k by omega]⟩
 | cons d l ih =>
  intro k ρ hl hk hp
  have hk':k<ds.length:=by
   apply Classical.byContradiction
   intro h
   rw [List.drop_eq_nil_of_le (by omega)] at hl
   cases hl
  have hd:ds[k]? = some d:=by
   have:=congrArg (fun x=>x[0]?) hl
   simpa using this
  obtain ⟨ρ1,ρ2,e1,e2,p2⟩:=step k d ρ hd hp
  have hl2:ds.drop (k+1)=l:=by
   rw [List.drop_eq_getElem_cons hk'] at hl
   exact (List.cons.inj hl).2
  obtain ⟨ρ',e3,p3⟩:=ih (k+1) ρ2 hl2 hk' p2
  exact ⟨ρ',by simp only [gQ,e1,e2,e3],p3⟩
theorem NU {g:M9} {b:SF} (P:Nat->aT->Prop) (lo:Int) (n:Nat) {ρ:aT} (h0:P 0 ρ) (step:∀ (i:Nat) (ρ:aT),i<n->P i ρ -> ∃ ρ1 ρ2,g (.int (lo+(i:Int))) ρ=some ρ1/\b ρ1=.nx ρ2/\P (i+1) ρ2) :
  ∃ ρ',gQ g b ((cQ lo n).map D.int) ρ=.nx ρ'/\P n ρ':=by
 have:=B6 (g:=g) (b:=b) P ((cQ lo n).map D.int) h0 fun i d ρ hd hp=>by
  have hi:i<n:=by
   have:=(List.getElem?_eq_some_iff.mp hd).1
   simpa [bV] using this
  rw [List.getElem?_map,B5 hi] at hd
  cases hd
  exact step i ρ hi hp
 simpa [bV] using this
theorem xP {α:Type} {g:EK} {e:EF} {ρ:bN} (mk:α->D) (f:α->D) (l:List α) (h:∀ a∈l,(g (mk a) ρ).bind e=some (f a)):iJ g bF e ρ (l.map mk)=some (l.map f):=by
 induction l with
 | nil=>rfl
 | cons a l ih =>
  have h1:=h a (by simp)
  have h2:=ih fun x hx=>h x (by simp [hx])
  cases hg:g (mk a) ρ with
  | none=>rw [hg] at h1; cases h1
  | some ρ1 =>
   rw [hg] at h1
   have h1':e ρ1=some (f a):=h1
   simp only [List.map_cons,iJ,hg,Option.bind_some,bF,if_true,h1',h2,Option.map_some]
theorem fI {α:Type} {g:EK} {e:EF} {ρ:bN} (mk:α->D) (f:α->D) (l:List α) (h:∀ a∈l,∃ ρ1,g (mk a) ρ=some ρ1/\e ρ1=some (f a)):iJ g bF e ρ (l.map mk)=some (l.map f) :=
 xP mk f l fun a ha=>by
  obtain ⟨ρ1,h1,h2⟩:=h a ha
  rw [h1]; exact h2
theorem rL {α:Type} {g:EK} {t:TF} {e:EF} {ρ:bN} (mk:α->D) (p:α->Bool) (f:α->D) (l:List α) (h:∀ a∈l,∃ ρ1,g (mk a) ρ=some ρ1/\t ρ1=some (p a)/\(p a=true->e ρ1=some (f a))) :
  iJ g t e ρ (l.map mk)=some ((l.filter p).map f):=by
 induction l with
 | nil=>rfl
 | cons a l ih =>
  obtain ⟨ρ1,h1,h2,h3⟩:=h a (by simp)
  have ih:=ih fun x hx=>h x (by simp [hx])
  cases hp:p a with
  | false=>simp [iJ,h1,h2,hp,ih]
  | true=>simp [iJ,h1,h2,hp,h3 hp,ih]
theorem NV {α β:Type} {g:EK} {e:EF} {ρ:bN} (mk:α->D) (out:β->D) (R:α->β->Prop) (l:List α) (h:∀ a∈l,∃ ρ1 b,g (mk a) ρ=some ρ1/\e ρ1=some (out b)/\R a b) :
  ∃ bs:List β,bs.length=l.length/\(∀ (i:Nat) (a:α) (b:β),l[i]? = some a->bs[i]? = some b->R a b)/\iJ g bF e ρ (l.map mk)=some (bs.map out):=by
 induction l with
 | nil=>exact ⟨[],rfl,fun i a b h=>by simp at h,rfl⟩
 | cons a l ih =>
  obtain ⟨ρ1,b,h1,h2,h3⟩:=h a (by simp)
  obtain ⟨bs,hl,hr,hc⟩:=ih fun x hx=>h x (by simp [hx])
  refine ⟨b::bs,by simp [hl],fun i x y hx hy=>?_,by simp [iJ,h1,h2,hc,bF]⟩
  cases i with
  | zero=>simp at hx hy; subst hx hy; exact h3
  | succ i=>exact hr i x y (by simpa using hx) (by simpa using hy)
noncomputable def Rt (o:Out) (Q:D->Prop):Prop:=∃ d,o=.rt d/\Q d
noncomputable def Nx (o:Out) (Q:aT->Prop):Prop:=∃ ρ,o=.nx ρ/\Q ρ
theorem t6 {f g:SF} {ρ:aT} {Q:D->Prop} (M:aT->Prop) (h1:Nx (f ρ) M) (h2:∀ ρ',M ρ'->Rt (g ρ') Q):Rt (aH f g ρ) Q:=by
 obtain ⟨ρ',e,m⟩:=h1; unfold aH; rw [e]; exact h2 ρ' m
theorem EV {f g:SF} {ρ:aT} {Q:aT->Prop} (M:aT->Prop) (h1:Nx (f ρ) M) (h2:∀ ρ',M ρ'->Nx (g ρ') Q):Nx (aH f g ρ) Q:=by
 obtain ⟨ρ',e,m⟩:=h1; unfold aH; rw [e]; exact h2 ρ' m
theorem j1 {f g:SF} {ρ:aT} {Q:D->Prop} (ρ':aT) (h1:f ρ=.nx ρ') (h2:Rt (g ρ') Q):Rt (aH f g ρ) Q:=by
 unfold aH; rw [h1]; exact h2
theorem SN {f g:SF} {ρ:aT} {Q:aT->Prop} (ρ':aT) (h1:f ρ=.nx ρ') (h2:Nx (g ρ') Q):Nx (aH f g ρ) Q:=by
 unfold aH; rw [h1]; exact h2
theorem HS {t:TF} {a b:SF} {ρ:aT} {Q:aT->Prop} (c:Bool) (h:t (bQ ρ)=some c) (h1:c=true->Nx (a ρ) Q) (h2:c=false->Nx (b ρ) Q):Nx (fD t a b ρ) Q:=by
 unfold fD; rw [h]; cases c; exact h2 rfl; exact h1 rfl
theorem NW {f:EF} {ρ:aT} {Q:D->Prop} (d:D) (h:f (bQ ρ)=some d) (q:Q d):Rt (aQ f ρ) Q:=⟨d,gU h,q⟩
theorem XS {ρ:aT} {Q:aT->Prop} (q:Q ρ):Nx (cM ρ) Q:=⟨ρ,rfl,q⟩
theorem t7 {it:AF} {g:M9} {b:SF} {ρ:aT} {Q:aT->Prop} (ds:List D) (P:Nat->aT->Prop) (h:it (jY ρ)=some ds) (h0:P 0 ρ) (step:∀ (i:Nat) (d:D) (ρ:aT),ds[i]? = some d->P i ρ -> ∃ ρ1,g d ρ=some ρ1/\Nx (b ρ1) (P (i+1)))
  (fin:∀ ρ',P ds.length ρ'->Q ρ'):Nx (cR it g b ρ) Q:=by
 obtain ⟨ρ',e,p⟩:=B6 (g:=g) (b:=b) P ds h0 fun i d ρ hd hp=>by
  obtain ⟨ρ1,e1,ρ2,e2,p2⟩:=step i d ρ hd hp
  exact ⟨ρ1,ρ2,e1,e2,p2⟩
 exact ⟨ρ',SJ ds h e,fin ρ' p⟩
theorem zU {t:AF} {g:M9} {b:SF} {ρ:aT} {Q:aT->Prop} (n:Nat) (P:Nat->aT->Prop) (h:t (jY ρ)=some [.int (n:Int)]) (hn:n<4611686018427387904) (h0:P 0 ρ) (step:∀ (i:Nat) (ρ:aT),i<n->P i ρ -> ∃ ρ1,g (.int (i:Int)) ρ=some ρ1/\Nx (b ρ1) (P (i+1)))
  (fin:∀ ρ',P n ρ'->Q ρ'):Nx (cR (aV t) g b ρ) Q:=by
 refine t7 ((cQ 0 n).map D.int) P (by unfold aV; rw [h,Option.bind_some,n8 hn]) h0 (fun i d ρ hd hp=>?_) (fun ρ' p=>fin ρ' (by simpa [bV] using p))
 have hi:i<n:=by
  have:=(List.getElem?_eq_some_iff.mp hd).1
  simpa [bV] using this
 rw [List.getElem?_map,B5 hi] at hd
 have hd:D.int (0+(i:Int))=d:=by simpa using hd
 subst hd
 obtain ⟨ρ1,e,q⟩:=step i ρ hi hp
 exact ⟨ρ1,by rw [Int.zero_add]; exact e,q⟩
theorem EW {n np:Nat} {b:SF} {ds:List D} {Q:D->Prop} (hl:ds.length=np) (h:Rt (b (cV n ds)) Q):∃ d,aX n np b ds=.ok d/\Q d:=by
 obtain ⟨d,e,q⟩:=h; exact ⟨d,gR hl e,q⟩
theorem xQ:∀ (l:List Int) (j:Nat),(l.map D.int).eraseIdx j=(l.eraseIdx j).map D.int
 | [],j=>by simp
 | a::l,0=>by simp
 | a::l,j+1=>by simp [xQ l j]
theorem cC {g:D->D->Option D} {a b:EF} {ρ:bN} {z:Option D} {x y:D} (ha:a ρ=some x) (hb:b ρ=some y) (h:g x y=z):aE g a b ρ=z:=by
 unfold aE; rw [ha,hb]; exact h
theorem fA {g:List D->Option D} {a:EF} {ρ:bN} {z:Option D} {x:D} (ha:a ρ=some x) (h:g [x]=z):bA g (aA a aC) ρ=z:=by
 unfold bA aA aC; rw [ha]; exact h
theorem gW {f:dP} {a:EF} {ρ:bN} {d x:D} (ha:a ρ=some x) (h:f [x]=.ok d):aF f (aA a aC) ρ=some d:=by
 unfold aF aA aC; rw [ha]; show BU (f [x])=_; rw [h]; rfl
theorem eK {f:dP} {a b:EF} {ρ:bN} {d x y:D} (ha:a ρ=some x) (hb:b ρ=some y) (h:f [x,y]=.ok d):aF f (aA a (aA b aC)) ρ=some d:=by
 unfold aF aA aC; rw [ha,hb]; show BU (f [x,y])=_; rw [h]; rfl
theorem mW {f:dP} {a b c:EF} {ρ:bN} {d x y z:D} (ha:a ρ=some x) (hb:b ρ=some y) (hc:c ρ=some z) (h:f [x,y,z]=.ok d):aF f (aA a (aA b (aA c aC))) ρ=some d:=by
 unfold aF aA aC; rw [ha,hb,hc]; show BU (f [x,y,z])=_; rw [h]; rfl
theorem NX {f:dP} {a b c e:EF} {ρ:bN} {d x y z w:D} (ha:a ρ=some x) (hb:b ρ=some y) (hc:c ρ=some z) (he:e ρ=some w) (h:f [x,y,z,w]=.ok d):aF f (aA a (aA b (aA c (aA e aC)))) ρ=some d:=by
 unfold aF aA aC; rw [ha,hb,hc,he]; show BU (f [x,y,z,w])=_; rw [h]; rfl
theorem args1 {a:EF} {ρ:bN} {x:D} (ha:a ρ=some x):aA a aC ρ=some [x]:=by unfold aA aC; rw [ha]; rfl
theorem args2 {a b:EF} {ρ:bN} {x y:D} (ha:a ρ=some x) (hb:b ρ=some y):aA a (aA b aC) ρ=some [x,y]:=by unfold aA aC; rw [ha,hb]; rfl
theorem aAy {a:EF} {ρ:bN} {n:Nat} (ha:a ρ=some (.int (n:Int))) (hn:n<4611686018427387904):aV (aA a aC) ρ=some ((cQ 0 n).map D.int):=by
 unfold aV; rw [args1 ha,Option.bind_some,n8 hn]
theorem EX {f:EF} {ρ:bN} {d:D} {b:Bool} (h:f ρ=some d) (ht:kF d=some b):tV f ρ=some b:=by unfold tV; rw [h]; exact ht
theorem XT {t:TF} {ρ:bN} {b c:Bool} (h:t ρ=some b) (hc:(!b)=c):fE t ρ=some c:=by unfold fE; rw [h,<- hc]; rfl
theorem aAz {t u:TF} {ρ:bN} {b c:Bool} (h:t ρ=some b) (h2:b=true->u ρ=some c) (h3:b=false->c=false):lW t u ρ=some c:=by
 unfold lW; rw [h]; cases b
 ·rw [h3 rfl]; rfl
 ·exact h2 rfl
theorem NY {t u:TF} {ρ:bN} {b c:Bool} (h:t ρ=some b) (h2:b=false->u ρ=some c) (h3:b=true->c=true):mC t u ρ=some c:=by
 unfold mC; rw [h]; cases b
 ·exact h2 rfl
 ·rw [h3 rfl]; rfl
theorem SQ {l:List Int} {i:Int} {y:Int} (h0:0<=i) (h1:i<l.length) (h2:l.length<=16777216) (hy:l[i.toNat]? = some y):NI (l.map D.int) (.int i)=some ((l.eraseIdx i.toNat).map D.int,.int y):=by
 show (if i.natAbs<9223372036854775808 then _ else _)=_
 rw [if_pos (by omega),List.length_map,zS h0 h1,Option.bind_some,List.getElem?_map,hy,xQ]
 rfl
theorem n9 {ws:List Int} {j:Nat} {x:Int} (h:ws[j]? = some x):wL (ws.map D.int) (j:Int)=some (.int x):=by
 rw [tE,tF h]; rfl
theorem NZ {α:Type} {l:List α} {i j:Nat} {x:α} (h:l[i]? = some x) (hij:i<j):(l.take j)[i]? = some x:=by rw [List.getElem?_take_of_lt hij]; exact h
theorem lH:∀ ns:List Int,nX (ns.map D.int)=true
 | []=>rfl
 | n::ns=>by rw [List.map_cons,nX,lH ns]; rfl
theorem mX {k q:Sum Int Str} {ks:List (Sum Int Str)} {d:D} {ds:List D}:iV (q::ks) (d::ds) k=if q=k then some d else iV ks ds k:=by
 by_cases e:q=k
 ·simp [iV,e]
 ·simp [iV,e]
theorem qA:∀ {word:List Int} {us:List (List Int)} {i:Nat} {x:Int} {v:List Int},word.Nodup->word[i]? = some x->us[i]? = some v->iV (word.map Sum.inl) (us.map aL) (Sum.inl x)=some (aL v)
 | [],us,i,x,v,_,h,_=>by simp at h
 | w::ws,[],i,x,v,_,_,h=>by simp at h
 | w::ws,u::us,0,x,v,_,h1,h2=>by
  simp at h1 h2
  subst h1 h2
  rw [List.map_cons,List.map_cons,mX,if_pos rfl]
 | w::ws,u::us,i+1,x,v,hn,h1,h2=>by
  obtain ⟨n1,n2⟩:=List.nodup_cons.mp hn
  have h1':ws[i]? = some x:=by simpa using h1
  have ne:(Sum.inl w:Sum Int Str)≠Sum.inl x:=fun e=>n1 (by cases e; exact List.mem_of_getElem? h1')
  rw [List.map_cons,List.map_cons,mX,if_neg ne]
  exact qA n2 h1' (by simpa using h2)
theorem xR:∀ {word:List Int} {us:List (List Int)} {x:Int},x∉word->iV (word.map Sum.inl) (us.map aL) (Sum.inl x)=none
 | [],us,x,_=>by simp [iV]
 | w::ws,[],x,_=>by simp [iV]
 | w::ws,u::us,x,h=>by
  have ne:(Sum.inl w:Sum Int Str)≠Sum.inl x:=fun e=>h (by cases e; exact List.mem_cons_self)
  rw [List.map_cons,List.map_cons,mX,if_neg ne]
  exact xR fun z=>h (List.mem_cons_of_mem _ z)
theorem insI_perm (a:Int):∀ l:List Int,(insI a l).Perm (a::l)
 | []=>.refl _
 | b::l=>by
  unfold insI
  split
  ·exact .refl _
  ·exact ((insI_perm a l).cons b).trans (.swap a b l)
theorem sortI_perm:∀ l:List Int,(sortI l).Perm l
 | []=>.refl _
 | a::l=>(insI_perm a (sortI l)).trans ((sortI_perm l).cons a)
theorem rM (a:Int):∀ l:List Int,l.Pairwise (· <= ·)->(insI a l).Pairwise (· <= ·)
 | [],_=>by simp [insI]
 | b::l,h=>by
  unfold insI
  split
  ·rename_i hab
   refine List.pairwise_cons.mpr ⟨fun c hc=>?_,h⟩
   rcases List.mem_cons.mp hc with e | e
   ·subst e; exact hab
   ·exact Int.le_trans hab ((List.pairwise_cons.mp h).1 c e)
  ·rename_i hab
   refine List.pairwise_cons.mpr ⟨fun c hc=>?_,rM a l (List.pairwise_cons.mp h).2⟩
   rcases List.mem_cons.mp ((insI_perm a l).mem_iff.mp hc) with e | e
   ·subst e; omega
   ·exact (List.pairwise_cons.mp h).1 c e
theorem j2:∀ l:List Int,(sortI l).Pairwise (· <= ·)
 | []=>List.Pairwise.nil
 | a::l=>rM a _ (j2 l)
theorem xS:∀ {l m:List Int},l.Perm m->l.Pairwise (· <= ·)->m.Pairwise (· <= ·)->l=m
 | [],m,p,_,_=>by rw [p.nil_eq]
 | a::l,[],p,_,_=>by have:=p.length_eq; simp at this
 | a::l,b::m,p,h1,h2=>by
  have e:a=b:=by
   have m1:=p.mem_iff.mp (List.mem_cons_self (a:=a) (l:=l))
   have m2:=p.mem_iff.mpr (List.mem_cons_self (a:=b) (l:=m))
   rcases List.mem_cons.mp m1 with e | e
   ·exact e
   ·rcases List.mem_cons.mp m2 with e2 | e2
    ·exact e2.symm
    ·have:=(List.pairwise_cons.mp h2).1 a e
     have:=(List.pairwise_cons.mp h1).1 b e2
     omega
  subst e
  rw [xS p.cons_inv (List.pairwise_cons.mp h1).2 (List.pairwise_cons.mp h2).2]
local macro_rules | `(tactic| walk_at "ev") => `(tactic| simp only [cV, aH, fD, aQ, aN, tM, fR, rG, rH, BY, sX, cR, cM, aB, eC, aE, tV, fE, lW, mC, fZ, VY, sL, SA, sM, kG, aC, aA, bA, aF, BU, iI, bE, aV, iW, XG, JZ, g1, g2, pU, nY, xN, bF, benv, NH, NG, oE, asInt, aM, iR, mQ, bQ, jY, Sv.all, Sv.rd, List.map_cons, List.map_nil, List.getElem?_cons_zero, List.getElem?_cons_succ, List.getElem?_nil, Option.join_some, Option.join_none, Option.bind_some, Option.bind_none, Option.map_some, Option.map_none, List.set_cons_zero, List.set_cons_succ, List.set_nil, List.length_cons, List.length_nil, List.length_map, List.cons_append, List.nil_append, List.replicate_succ, List.replicate_zero, Nat.reduceSub, Nat.reduceAdd, Nat.reduceEqDiff, p6, mU, mV, kM, SD, n0, tU, sV, sW, sY, zM, eU, zN, pW, j0, zP, tK, sZ, tB, zQ, kL, n6, tW, mS, mT, pX, pZ, p4, p5, p7, p8, tX, tY, if_true, if_false, ite_true, ite_false, reduceIte, decide_true, decide_false, decide_eq_true_eq, Bool.false_eq_true, Bool.not_true, Bool.not_false, tD, zR])
theorem zV (ns:List Int) (k:Int):∃ c,dB [.nW ns,.int k]=.ok (.int c):=by
 unfold dB
 by_cases h:(ns.length:Int)=0
 ·exact ⟨0,gR rfl (NS (XR (by walk_at "ev"; rw [decide_eq_true h]) rfl))⟩
 ·obtain ⟨x,_,e,_⟩:=zT (xs:=ns) (i:=k % (ns.length:Int)) (Int.emod_nonneg _ (by omega)) (Int.emod_lt_of_pos _ (by omega))
  refine ⟨x,gR rfl (cN _ (BP (by walk_at "ev"; rw [decide_eq_false h]) rfl) (gU ?_))⟩
  walk_at "ev"
  rw [dG (by omega)]
  walk_at "ev"
  rw [e]; rfl
noncomputable def N0 (c k s:Int):Int:=(c+11*k*k+17*k+s)*48271 % 2147483647
noncomputable def aBA (c k s:Int):Int:=(N0 c k s*(N0 c k s / 4096+5)+29*k+s) % 2147483629
theorem N2 (c k s:Int) (h0:0<=k) (h1:k<1000000):∃ r,0<=r/\eT [.int c,.int k,.int s]=.ok (.int r):=by
 unfold eT
 have ha:0<=N0 c k s:=Int.emod_nonneg ((c+11*k*k+17*k+s)*48271) (b:=2147483647) (by decide)
 have hb:N0 c k s<2147483647:=Int.emod_lt_of_pos ((c+11*k*k+17*k+s)*48271) (b:=2147483647) (by decide)
 refine ⟨aBA c k s*39373 % 1000000007,Int.emod_nonneg _ (b:=1000000007) (by decide),gR rfl (cN _ (iS (.int (N0 c k s)) ?_ rfl) (cN _ (iS (.int (aBA c k s)) ?_ rfl) (gU ?_)))⟩
 ·walk_at "ev"
  rw [tZ (by decide)]
  walk_at "ev"
  rw [EU (by omega),tZ (i:=17) (by decide)]
  walk_at "ev"
  rw [EU (j:=48271) (by decide)]
  walk_at "ev"
  rw [dG (by decide)]
  rfl
 ·walk_at "ev"
  rw [n5 (by decide) (by decide)]
  walk_at "ev"
  rw [tZ (by omega),tZ (i:=29) (by decide)]
  walk_at "ev"
  rw [dG (by decide)]
  rfl
 ·walk_at "ev"
  rw [EU (j:=39373) (by decide)]
  walk_at "ev"
  rw [dG (by decide)]
theorem xT (xs:List Int) (x:Int):D.lst (xs.map D.int++[.int x])=aL (xs++[x]):=by simp [aL]
theorem t8 (c many s:Int) (h0:0<=many) (h1:many<1000000):∃ xs:List Int,xs.length=many.toNat/\(∀ x∈xs,0<=x)/\cK [.int c,.int many,.int s]=.ok (aL xs):=by
 unfold cK
 have key:∀ left:Int,∃ ρ',gQ (pU 5) (fD (tV (aE EC (aB 4) (eC (.int 0))))
    (aH (sX (iR 3 eF (aM (aE cJ (aB 4) (eC (.int 64))))))
    (aN 4 (aE kH (aB 4) (eC (.int 64)))))
    (sX (iR 3 eF (aM (aF LL.eT (aA (aB 0) (aA (aB 5) (aA (aB 2) aC))))))))
    ((cQ 0 many.toNat).map D.int) [Sv.ro (.int c),Sv.ro (.int many),Sv.ro (.int s),Sv.ow (.lst []),Sv.ro (.int left),Sv.no]=.nx ρ' /\
    ∃ (xs:List Int) (l:Int) (v:Sv),xs.length=many.toNat/\(∀ x∈xs,0<=x)/\ρ' = [Sv.ro (.int c),Sv.ro (.int many),Sv.ro (.int s),Sv.ow (aL xs),Sv.ro (.int l),v]:=by
  intro left
  refine NU (fun i ρ'=>∃ (xs:List Int) (l:Int) (v:Sv),xs.length=i/\(∀ x∈xs,0<=x)/\ρ' = [Sv.ro (.int c),Sv.ro (.int many),Sv.ro (.int s),Sv.ow (aL xs),Sv.ro (.int l),v]) 0 _ ⟨[],left,_,rfl,by simp,rfl⟩ ?_
  rintro i _ hi ⟨xs,l,v,hx,hn,rfl⟩
  have hlen:(xs.map D.int).length<16777216:=by rw [List.length_map]; omega
  by_cases hl:0<l
  ·refine ⟨_,_,rfl,XR (by walk_at "ev"; rw [decide_eq_true hl]) (cN [Sv.ro (.int c),Sv.ro (.int many),Sv.ro (.int s),Sv.ow (aL (xs++[l % 64])),Sv.ro (.int l),Sv.ro (.int (0+(i:Int)))] ?_ (iS (.int (l / 64)) ?_ rfl)),xs++[l % 64],l / 64,_,by simp [hx],?_,rfl⟩
   ·walk_at "ev"
    rw [dG (by decide)]
    walk_at "ev"
    simp only [aL,mQ]
    walk_at "ev"
    rw [lG hlen]
    walk_at "ev"
    rw [xT]
    rfl
   ·walk_at "ev"
    rw [n5 (by decide) (by decide)]
   ·intro x hx
    rcases List.mem_append.mp hx with h | h
    ·exact hn x h
    ·rw [List.mem_singleton.mp h]; exact Int.emod_nonneg _ (by decide)
  ·obtain ⟨r,hr,e⟩:=N2 c (0+(i:Int)) s (by omega) (by omega)
   refine ⟨_,[Sv.ro (.int c),Sv.ro (.int many),Sv.ro (.int s),Sv.ow (aL (xs++[r])),Sv.ro (.int l),Sv.ro (.int (0+(i:Int)))],rfl,BP (by walk_at "ev"; rw [decide_eq_false hl]) ?_,xs++[r],l,_,by simp [hx],?_,rfl⟩
   ·walk_at "ev"
    rw [e]
    simp only [aL,mQ]
    walk_at "ev"
    rw [lG hlen]
    walk_at "ev"
    rw [xT]
    rfl
   ·intro x hx
    rcases List.mem_append.mp hx with h | h
    ·exact hn x h
    ·rw [List.mem_singleton.mp h]; exact hr
 have hp:BS (.int 10) (.int 18)=some (.int 1000000000000000000):=rfl
 have fin:∀ left:Int,(0=0) -> ∃ xs:List Int,xs.length=many.toNat/\(∀ x∈xs,0<=x)/\aH (cR (aV (aA (aB 1) aC)) (pU 5) (fD (tV (aE EC (aB 4) (eC (.int 0))))
    (aH (sX (iR 3 eF (aM (aE cJ (aB 4) (eC (.int 64))))))
    (aN 4 (aE kH (aB 4) (eC (.int 64)))))
    (sX (iR 3 eF (aM (aF LL.eT (aA (aB 0) (aA (aB 5) (aA (aB 2) aC))))))))) (aQ (aB 3)) [Sv.ro (.int c),Sv.ro (.int many),Sv.ro (.int s),Sv.ow (.lst []),Sv.ro (.int left),Sv.no]=.rt (aL xs):=by
  intro left _
  obtain ⟨ρ',e,xs,l,v,h1',h2',rfl⟩:=key left
  refine ⟨xs,h1',h2',cN _ (SJ _ ?_ e) (gU rfl)⟩
  walk_at "ev"
  exact B4 (by omega)
 by_cases hc:1000000000000000000<=c
 ·obtain ⟨xs,a,b,e⟩:=fin c rfl
  refine ⟨xs,a,b,gR rfl (cN _ rfl (cN _ rfl (cN _ (XR ?_ rfl) e)))⟩
  walk_at "ev"
  rw [hp]
  walk_at "ev"
  rw [decide_eq_true hc]
 ·obtain ⟨xs,a,b,e⟩:=fin 0 rfl
  refine ⟨xs,a,b,gR rfl (cN _ rfl (cN _ rfl (cN _ (BP ?_ rfl) e)))⟩
  walk_at "ev"
  rw [hp]
  walk_at "ev"
  rw [decide_eq_false hc]
theorem N3 (dr:List Int) (n:Nat) (th:Int) (hn:n<=9) (hl:n+Ord.tri n<=dr.length) :
  ∃ d,gA [aL dr,.int n,.int th]=.ok d /\ ∃ rows:List (List Int),rows.length=n/\Ord.Rows rows/\d=aY rows:=by
 unfold gA
 refine EW rfl ?_
 rw [show cV 11 [aL dr,.int n,.int th]=[Sv.ro (aL dr),Sv.ro (.int n),Sv.ro (.int th),Sv.no,Sv.no,Sv.no,Sv.no,Sv.no,Sv.no,Sv.no,Sv.no] from rfl]
 refine j1 [Sv.ro (aL dr),Sv.ro (.int n),Sv.ro (.int th),Sv.ow (.lst ((cQ 0 n).map D.int)),Sv.no,Sv.no,Sv.no,Sv.no,Sv.no,Sv.no,Sv.no] ?_ ?_
 ·walk_at "ev"
  simp only [EI]
  walk_at "ev"
  rw [if_pos (by omega)]
  rfl
 refine j1 [Sv.ro (aL dr),Sv.ro (.int n),Sv.ro (.int th),Sv.ow (.lst ((cQ 0 n).map D.int)),Sv.ow (.lst []),Sv.no,Sv.no,Sv.no,Sv.no,Sv.no,Sv.no] rfl ?_
 refine t6 (fun ρ=>∃ (word:List Int) (kv v3:Sv),word.Perm (cQ 0 n)/\ρ=[Sv.ro (aL dr),Sv.ro (.int n),Sv.ro (.int th),v3,Sv.ow (aL word),kv,Sv.no,Sv.no,Sv.no,Sv.no,Sv.no]) ?_ ?_
 ·refine zU n (fun i ρ=>∃ (rest word:List Int) (kv:Sv),word.length=i/\(word++rest).Perm (cQ 0 n)/\ρ=[Sv.ro (aL dr),Sv.ro (.int n),Sv.ro (.int th),Sv.ow (aL rest),Sv.ow (aL word),kv,Sv.no,Sv.no,Sv.no,Sv.no,Sv.no])
   rfl (by omega) ⟨cQ 0 n,[],Sv.no,rfl,.refl _,rfl⟩ ?_ ?_
  ·rintro i _ hi ⟨rest,word,kv,hw,hp,rfl⟩
   have hlr:word.length+rest.length=n:=by
    have:=hp.length_eq
    rw [List.length_append,bV] at this
    exact this
   obtain ⟨x,hx⟩:∃ x,dr[i]? = some x:=⟨_,List.getElem?_eq_getElem (by omega)⟩
   have hr0:(0:Int)<rest.length:=by omega
   have h0:=Int.emod_nonneg x (show (rest.length:Int)≠0 by omega)
   have h1:=Int.emod_lt_of_pos x hr0
   obtain ⟨y,hy⟩:∃ y,rest[(x % (rest.length:Int)).toNat]? = some y:=⟨_,List.getElem?_eq_getElem (by omega)⟩
   refine ⟨_,rfl,[Sv.ro (aL dr),Sv.ro (.int n),Sv.ro (.int th),Sv.ow (aL (rest.eraseIdx (x % (rest.length:Int)).toNat)),Sv.ow (aL (word++[y])),Sv.ro (.int i),Sv.no,Sv.no,Sv.no,Sv.no,Sv.no],?_,rest.eraseIdx (x % (rest.length:Int)).toNat,word++[y],Sv.ro (.int i),by simp [hw],?_,rfl⟩
   ·have e1:=SQ h0 h1 (by omega) hy
    simp only [aL]
    walk_at "ev"
    simp only [mE]
    walk_at "ev"
    rw [n9 hx]
    walk_at "ev"
    rw [dG hr0]
    walk_at "ev"
    simp only [D.tJ,ite_true,Option.bind_some]
    walk_at "ev"
    rw [e1]
    walk_at "ev"
    rw [lG (by rw [List.length_map]; omega)]
    walk_at "ev"
    rw [List.map_append]
    rfl
   ·rw [List.append_assoc]
    exact ((Ord.tQ rest _ y hy).append_left word).trans hp
  ·rintro _ ⟨rest,word,kv,hw,hp,rfl⟩
   have hlr:word.length+rest.length=n:=by
    have:=hp.length_eq
    rw [List.length_append,bV] at this
    exact this
   have e:rest=[]:=List.length_eq_zero_iff.mp (by omega)
   subst e
   rw [List.append_nil] at hp
   exact ⟨word,kv,_,hp,rfl⟩
 rintro _ ⟨word,kv,v3,hp,rfl⟩
 have hpw:word.Perm ((List.range n).map fun k:Nat=>(k:Int)):=by
  have e:cQ 0 n=(List.range n).map fun k:Nat=>(k:Int):=List.map_congr_left fun k _=>by show 0+(k:Int)=k; omega
  rw [<- e]
  exact hp
 have hlw:word.length=n:=by rw [hpw.length_eq,List.length_map,List.length_range]
 have ndw:word.Nodup:=hpw.nodup_iff.mpr (List.Pairwise.map _ (fun a b hab e=>hab (by omega)) List.nodup_range)
 have XU:∀ {us:List (List Int)} (t:Nat) (u:List Int),Ord.Under word us t u->u.length<=n:=fun {us} t u h=>by
  rw [<- hlw]
  exact Ord.eJ u word h.1 fun a ha=>by obtain ⟨s,_,_,h2,_⟩:=h.2 a ha; exact List.mem_of_getElem? h2
 refine j1 [Sv.ro (aL dr),Sv.ro (.int n),Sv.ro (.int th),v3,Sv.ow (aL word),kv,Sv.ow (.iQ [] []),Sv.no,Sv.no,Sv.no,Sv.no] rfl ?_
 refine j1 [Sv.ro (aL dr),Sv.ro (.int n),Sv.ro (.int th),v3,Sv.ow (aL word),kv,Sv.ow (.iQ [] []),Sv.ro (.int n),Sv.no,Sv.no,Sv.no] rfl ?_
 refine t6 (fun ρ=>∃ (us:List (List Int)) (v7 v8 v9 v10:Sv),us.length=n/\Ord.Good word us/\ρ=[Sv.ro (aL dr),Sv.ro (.int n),Sv.ro (.int th),v3,Sv.ow (aL word),kv,Sv.ow (.iQ (word.map Sum.inl) (us.map aL)),v7,v8,v9,v10]) ?_ ?_
 ·refine zU n (fun j ρ=>∃ (us:List (List Int)) (v8 v9 v10:Sv),us.length=j/\Ord.Good word us/\ρ=[Sv.ro (aL dr),Sv.ro (.int n),Sv.ro (.int th),v3,Sv.ow (aL word),kv,Sv.ow (.iQ ((word.take j).map Sum.inl) (us.map aL)),Sv.ro (.int ((n+Ord.tri j:Nat):Int)),v8,v9,v10])
   rfl (by omega) ⟨[],Sv.no,Sv.no,Sv.no,rfl,(fun t u e=>by simp at e),rfl⟩ ?_ ?_
  ·rintro j _ hj ⟨us,v8,v9,v10,hul,hg,rfl⟩
   refine ⟨_,rfl,?_⟩
   refine SN [Sv.ro (aL dr),Sv.ro (.int n),Sv.ro (.int th),v3,Sv.ow (aL word),kv,Sv.ow (.iQ ((word.take j).map Sum.inl) (us.map aL)),Sv.ro (.int ((n+Ord.tri j:Nat):Int)),Sv.ro (.int j),Sv.ro (.lst []),v10] rfl ?_
   refine EV (fun ρ=>∃ (u:List Int) (v10:Sv),Ord.Under word us j u/\ρ=[Sv.ro (aL dr),Sv.ro (.int n),Sv.ro (.int th),v3,Sv.ow (aL word),kv,Sv.ow (.iQ ((word.take j).map Sum.inl) (us.map aL)),Sv.ro (.int ((n+Ord.tri (j+1):Nat):Int)),Sv.ro (.int j),Sv.ro (aL u),v10]) ?_ ?_
   ·refine zU j (fun i ρ=>∃ (u:List Int) (v10:Sv),Ord.Under word us i u/\ρ=[Sv.ro (aL dr),Sv.ro (.int n),Sv.ro (.int th),v3,Sv.ow (aL word),kv,Sv.ow (.iQ ((word.take j).map Sum.inl) (us.map aL)),Sv.ro (.int ((n+Ord.tri j+i:Nat):Int)),Sv.ro (.int j),Sv.ro (aL u),v10])
     rfl (by omega) ⟨[],_,⟨List.nodup_nil,fun a ha=>(nomatch ha)⟩,rfl⟩ ?_ ?_
    ·rintro i _ hi ⟨u,v10,hU,rfl⟩
     have tl:=Ord.XQ hj hi
     obtain ⟨y,hy⟩:∃ y,dr[n+Ord.tri j+i]? = some y:=⟨_,List.getElem?_eq_getElem (by omega)⟩
     obtain ⟨x,hx⟩:∃ x,word[i]? = some x:=⟨_,List.getElem?_eq_getElem (by omega)⟩
     obtain ⟨v,hv⟩:∃ v,us[i]? = some v:=⟨_,List.getElem?_eq_getElem (by omega)⟩
     have lv:=XU _ _ (hg i v hv)
     have lu:=XU _ _ hU
     refine ⟨_,rfl,?_⟩
     refine EV (fun ρ=>∃ u':List Int,Ord.Under word us (i+1) u'/\ρ=[Sv.ro (aL dr),Sv.ro (.int n),Sv.ro (.int th),v3,Sv.ow (aL word),kv,Sv.ow (.iQ ((word.take j).map Sum.inl) (us.map aL)),Sv.ro (.int ((n+Ord.tri j+i:Nat):Int)),Sv.ro (.int j),Sv.ro (aL u'),Sv.ro (.int i)]) ?_ ?_
     ·refine HS (decide (y % 4<th)) ?_ (fun _=>?_) (fun _=>XS ⟨u,hU.mono (by omega),rfl⟩)
      ·simp only [aL]
       walk_at "ev"
       rw [n9 hy]
       walk_at "ev"
       rw [dG (by decide)]
       walk_at "ev"
      ·refine ⟨_,?_,_,hU.step ndw hg hx hv,rfl⟩
       have hf:=List.length_filter_le (fun a=>!u.contains a) (v++[x])
       have e1:iJ (g1 0) (tV (aE (jX true) (aB 0) (aB 1))) (aB 0) [none,some (.lst (u.map D.int))] ((v++[x]).map D.int)=some (((v++[x]).filter fun a=>!u.contains a).map D.int) :=
        rL D.int _ D.int (v++[x]) fun a _=>⟨_,rfl,by walk_at "ev",fun _=>rfl⟩
       have e2:aE bM (aE tL (aB 6) (aE bZ (aB 4) (aB 10))) (dD (aA (aE bZ (aB 4) (aB 10)) aC)) [some (aL dr),some (.int n),some (.int th),v3.all,some (aL word),kv.all,some (.iQ ((word.take j).map Sum.inl) (us.map aL)),some (.int ((n+Ord.tri j+i:Nat):Int)),some (.int j),some (aL u),some (.int i)]=some (.lst ((v++[x]).map D.int)):=by
        simp only [aL]
        walk_at "ev"
        rw [n9 hx]
        walk_at "ev"
        simp only [tL,zE,Option.bind_some]
        have:=qA (List.Nodup.sublist (List.take_sublist j word) ndw) (NZ hx hi) hv
        simp only [aL] at this
        rw [this]
        simp only [dD]
        walk_at "ev"
        rw [n9 hx]
        walk_at "ev"
        rw [if_pos (by decide),Option.bind_some,B2 (by simp; omega)]
        simp
       have e3:bC 1 [9] (bE (aE bM (aE tL (aB 6) (aE bZ (aB 4) (aB 10))) (dD (aA (aE bZ (aB 4) (aB 10)) aC)))) (g1 0) (tV (aE (jX true) (aB 0) (aB 1))) (aB 0) [some (aL dr),some (.int n),some (.int th),v3.all,some (aL word),kv.all,some (.iQ ((word.take j).map Sum.inl) (us.map aL)),some (.int ((n+Ord.tri j+i:Nat):Int)),some (.int j),some (aL u),some (.int i)]=some (.lst (((v++[x]).filter fun a=>!u.contains a).map D.int)) :=
        j9 ((v++[x]).map D.int) (by unfold bE; rw [e2]; rfl) (by simp; omega) e1
       unfold rH
       have e4:aE zF (aB 9) (bC 1 [9] (bE (aE bM (aE tL (aB 6) (aE bZ (aB 4) (aB 10))) (dD (aA (aE bZ (aB 4) (aB 10)) aC)))) (g1 0) (tV (aE (jX true) (aB 0) (aB 1))) (aB 0)) [some (aL dr),some (.int n),some (.int th),v3.all,some (aL word),kv.all,some (.iQ ((word.take j).map Sum.inl) (us.map aL)),some (.int ((n+Ord.tri j+i:Nat):Int)),some (.int j),some (aL u),some (.int i)]=some (aL (u++(v++[x]).filter fun a=>!u.contains a)):=by
        refine cC (x:=aL u) rfl e3 ?_
        show zF (.lst (u.map D.int)) _=_
        rw [NT (by simp only [List.length_map,List.length_append,List.length_cons,List.length_nil] at hf ⊢; omega),<- List.map_append]
        rfl
       rw [show bQ _=[some (aL dr),some (.int n),some (.int th),v3.all,some (aL word),kv.all,some (.iQ ((word.take j).map Sum.inl) (us.map aL)),some (.int ((n+Ord.tri j+i:Nat):Int)),some (.int j),some (aL u),some (.int i)] from rfl,e4]
       show (if kJ (aL _)=true then _ else _)=_
       rw [if_pos (show kJ (aL _)=true from lH _)]
       rfl
     rintro _ ⟨u',hU',rfl⟩
     exact ⟨_,rfl,u',_,hU',rfl⟩
    ·rintro _ ⟨u,v10,hU,rfl⟩
     exact ⟨u,v10,hU,by rw [Nat.add_assoc]; rfl⟩
   rintro _ ⟨u,v10,hU,rfl⟩
   obtain ⟨x,hx⟩:∃ x,word[j]? = some x:=⟨_,List.getElem?_eq_getElem (by omega)⟩
   refine ⟨[Sv.ro (aL dr),Sv.ro (.int n),Sv.ro (.int th),v3,Sv.ow (aL word),kv,Sv.ow (.iQ ((word.take (j+1)).map Sum.inl) ((us++[u]).map aL)),Sv.ro (.int ((n+Ord.tri (j+1):Nat):Int)),Sv.ro (.int j),Sv.ro (aL u),v10],?_,us++[u],Sv.ro (.int j),Sv.ro (aL u),v10,by simp [hul],hg.snoc (by rw [hul]; exact hU),rfl⟩
   have hno:iV ((word.take j).map Sum.inl) (us.map aL) (Sum.inl x)=none:=xR fun hm=>by
    obtain ⟨t,ht⟩:=List.mem_iff_getElem?.mp hm
    have htl:t<j:=by
     have:=(List.getElem?_eq_some_iff.mp ht).1
     rw [List.length_take] at this
     omega
    rw [List.getElem?_take_of_lt htl] at ht
    have:=Ord.tT ndw ht hx
    omega
   unfold HK
   walk_at "ev"
   simp only [tN,Option.bind_some]
   have e5:bZ (aL word) (.int (j:Int))=some (.int x):=n9 hx
   rw [e5]
   simp only [Option.bind_some,zE,hno,Option.isNone_none,true_and]
   rw [if_pos (by rw [List.length_map]; show us.length<16777216; omega),List.take_succ,hx,List.map_append,List.map_append]
   rfl
  ·rintro _ ⟨us,v8,v9,v10,hul,hg,rfl⟩
   refine ⟨us,Sv.ro (.int ((n+Ord.tri n:Nat):Int)),v8,v9,v10,hul,hg,?_⟩
   rw [List.take_of_length_le (by omega)]
 rintro _ ⟨us,v7,v8,v9,v10,hul,hg,rfl⟩
 have ec:∃ rows:List (List Int),rows.length=(List.range n).length/\(∀ (i:Nat) (b:Nat) (r:List Int),(List.range n)[i]? = some b->rows[i]? = some r -> ∀ (t:Nat) (u:List Int),word[t]? = some (b:Int)->us[t]? = some u->r.Perm u/\r.Pairwise (· <= ·)) /\
   iJ (g1 0) bF (bA bH (aA (bA fC (aA (aE tL (aB 1) (aB 0)) aC)) aC)) [none,some (.iQ (word.map Sum.inl) (us.map aL))] ((List.range n).map fun b:Nat=>D.int (b:Int))=some (rows.map tupI):=by
  refine NV (fun b:Nat=>D.int (b:Int)) tupI _ (List.range n) fun b hb=>?_
  have hb2:=List.mem_range.mp hb
  have hm:(b:Int)∈word:=hpw.mem_iff.mpr (List.mem_map.mpr ⟨b,hb,rfl⟩)
  obtain ⟨t,ht⟩:=List.mem_iff_getElem?.mp hm
  obtain ⟨u,hu2⟩:∃ u,us[t]? = some u:=⟨_,List.getElem?_eq_getElem (by have:=(List.getElem?_eq_some_iff.mp ht).1; omega)⟩
  have lu:=XU _ _ (hg t u hu2)
  refine ⟨_,sortI u,rfl,?_,fun t' u' e1 e2=>?_⟩
  ·walk_at "ev"
   simp only [tL,zE,Option.bind_some]
   rw [qA ndw ht hu2]
   simp only [aL]
   walk_at "ev"
   rw [sorted_ints (by omega)]
   rfl
  ·have e:=Ord.tT ndw e1 ht
   subst e
   rw [hu2] at e2
   cases e2
   exact ⟨sortI_perm u,j2 u⟩
 obtain ⟨rows,hr1,hr2,ec⟩:=ec
 rw [List.length_range] at hr1
 refine NW (aY rows) ?_ ⟨rows,hr1,hg.rows hul hpw hr1 fun b t r u e1 e2 e3=>hr2 b b r (by rw [List.getElem?_range (by have:=(List.getElem?_eq_some_iff.mp e1).1; omega)]) e1 t u e2 e3,rfl⟩
 have e6:(cQ 0 n).map D.int=(List.range n).map fun b:Nat=>D.int (b:Int):=by
  unfold cQ
  rw [List.map_map]
  exact List.map_congr_left fun b _=>by show D.int (0+(b:Int))=_; rw [Int.zero_add]
 have e7:=j9 (nl:=1) (fr:=[6]) (it:=aV (aA (aB 1) aC)) (g:=g1 0) (t:=bF) (e:=bA bH (aA (bA fC (aA (aE tL (aB 1) (aB 0)) aC)) aC)) (ρ:=bQ [Sv.ro (aL dr),Sv.ro (.int n),Sv.ro (.int th),v3,Sv.ow (aL word),kv,Sv.ow (.iQ (word.map Sum.inl) (us.map aL)),v7,v8,v9,v10]) ((cQ 0 n).map D.int)
  (by walk_at "ev"; exact n8 (by omega)) (by rw [List.length_map,bV]; omega) (by rw [e6]; exact ec)
 exact fA e7 rfl
theorem SR (n:Nat):2*Ord.tri n+n=n*n:=by
 induction n with
 | zero=>rfl
 | succ n ih =>
  show 2*(Ord.tri n+n)+(n+1)=(n+1)*(n+1)
  have:(n+1)*(n+1)=n*n+2*n+1:=by rw [Nat.add_mul,Nat.mul_add]; omega
  omega
theorem B7 (ns:List Int) (k m s:Int) (h0:0<=m) (h1:m<=9) :
  ∃ d,dQ [.nW ns,.int k,.int m,.int s]=.ok d /\ ∃ rows:List (List Int),(rows.length:Int)<=m/\Ord.Rows rows/\d=aY rows:=by
 unfold dQ
 refine EW rfl ?_
 obtain ⟨c1,ec1⟩:=zV ns k
 obtain ⟨xs,hx,hxn,ex⟩:=t8 c1 4 s (by decide) (by decide)
 obtain ⟨c2,ec2⟩:=zV ns (k+1)
 obtain ⟨a,b,r,rfl⟩:∃ a b r,xs=a::b::r:=by
  match xs,hx with
  | a::b::r,_=>exact ⟨a,b,r,rfl⟩
 have hm0:=Int.emod_nonneg a (show m+1≠0 by omega)
 have hm1:=Int.emod_lt_of_pos a (show 0<m+1 by omega)
 obtain ⟨n,hn⟩:∃ n:Nat,a % (m+1)=(n:Int):=⟨(a % (m+1)).toNat,by omega⟩
 have hn9:n<=9:=by omega
 have et:=SR n
 have hq:(n:Int)*((n:Int) - 1) / 2=(Ord.tri n:Int):=by
  have:(n:Int)*((n:Int) - 1)=2*(Ord.tri n:Int):=by
   have e2:((n*n:Nat):Int)=(n:Int)*n:=by simp
   rw [Int.mul_sub,Int.mul_one]
   omega
  rw [this,Int.mul_ediv_cancel_left _ (by decide)]
 have aLa:Ord.tri n<=36:=Ord.NR hn9
 obtain ⟨ys,hy,hyn,ey⟩:=t8 c2 ((n:Int)+Ord.tri n) (s+10007) (by omega) (by omega)
 refine j1 _ (iS (aL (a::b::r)) (mW (eK rfl rfl ec1) rfl rfl ex) rfl) ?_
 refine j1 _ (iS (.int n) ?_ rfl) ?_
 ·simp only [aL]
  walk_at "ev"
  rw [show wL (D.int a::D.int b::r.map D.int) 0=some (D.int a) from tF (k:=0) rfl]
  walk_at "ev"
  rw [dG (by omega),hn]
 refine j1 _ (iS (aL ys) (mW (eK rfl rfl ec2) ?_ rfl ey) rfl) ?_
 ·walk_at "ev"
  rw [tZ (by omega)]
  walk_at "ev"
  rw [n5 (by decide) (by decide),hq]
  walk_at "ev"
 have hb0:=Int.emod_nonneg b (show (8:Int)≠0 by decide)
 have hb1:=Int.emod_lt_of_pos b (show (0:Int)<8 by decide)
 have hth:∃ th:Int,aE bZ (dD (aA (eC (.int 1)) (aA (eC (.int 1)) (aA (eC (.int 2)) (aA (eC (.int 2)) (aA (eC (.int 3)) (aA (eC (.int 1)) (aA (eC (.int 0)) (aA (eC (.int 4)) aC))))))))) (aE cJ (aE bZ (aB 4) (eC (.int 1))) (eC (.int 8))) [some (.nW ns),some (.int k),some (.int m),some (.int s),some (aL (a::b::r)),some (.int n),some (aL ys)]=some (.int th):=by
  obtain ⟨x,hx,e,_⟩:=zT (xs:=[(1:Int),1,2,2,3,1,0,4]) (i:=b % 8) hb0 hb1
  refine ⟨x,cC (x:=.lst ([(1:Int),1,2,2,3,1,0,4].map D.int)) rfl (y:=.int (b % 8)) ?_ ?_⟩
  ·refine cC (x:=.int b) (y:=.int 8) ?_ rfl (dG (by decide))
   simp only [aL]
   walk_at "ev"
   exact tF (k:=1) rfl
  ·rw [sZ,tE,e]; rfl
 obtain ⟨th,eth⟩:=hth
 obtain ⟨d,ed,rows,hr1,hr2,rfl⟩:=N3 ys n th hn9 (by omega)
 exact NW (aY rows) (mW rfl rfl eth ed) ⟨rows,by omega,hr2,rfl⟩
noncomputable def fH:dP:=aX 2 2
  (aQ (kG leM R4 (eC (.int 0)) (aB 0) (aB 1)))
noncomputable def t9:dP:=aX 2 2
  (aQ (bA bH (aA (bC 2 [1] (iW (aA (aB 0) aC)) (g2 0 1) (tV (aE (jX false) (aB 2) (aB 1))) (aB 0)) aC)))
noncomputable def jC:dP:=aX 1 1
  (aQ (bA bH (aA (bC 1 [0] (aV (aA (bA bL (aA (aB 0) aC)) aC)) (g1 0) bF (aF LL.t9 (aA (aB 1) (aA (aB 0) aC)))) aC)))
noncomputable def HU:dP:=aX 7 3
  (aH (aN 3 (aE bM (bA BV (aA (aE bZ (aB 0) (aB 1)) aC)) (dD (aA (aB 1) aC))))
  (aH (fR 4 (dD aC))
  (aH (cR (aV (aA (bA bL (aA (aB 0) aC)) aC)) (pU 5)
   (aH (aN 6 (bA BV (aA (aE bZ (aB 0) (aB 5)) aC)))
   (aH (fD (mC (tV (aE jI (aB 5) (aB 2))) (tV (aE (jX false) (aB 2) (aE bZ (aB 0) (aB 5)))))
    (aN 6 (aE bM (aB 6) (bC 1 [6] (bE (aB 3)) (g1 0) (tV (aE (jX true) (aB 0) (aB 1))) (aB 0))))
    cM)
   (sX (iR 4 eF (aM (bA bH (aA (bA fC (aA (aB 6) aC)) aC))))))))
  (aQ (bA bH (aA (aB 4) aC))))))
noncomputable def zW:Nat->D->Prop
 | 0,_=>False
 | n+1,.tup ds=>ds.length<=1000000 /\ ∀ d∈ds,zW n d
 | _+1,.int _=>True
 | _+1,.bl _=>True
 | _+1,.non=>True
 | _+1,.str _=>True
 | _+1,_=>False
theorem isi {T:String} {f:EF} {ρ:bN} {d:D} (h:f ρ=some d) (hn:EH d=true:=by rfl):iI T f ρ=some (.bl (EG T d)):=by unfold iI; rw [h]; exact if_pos hn
theorem same_refl:∀ (n:Nat) (d:D),zW n d->aZ n [d,d]=.ok (.bl true)
 | 0,_,h=>h.elim
 | n+1,.tup ds,h=>by
  have hl:=h.1
  unfold aZ
  refine gR rfl (NS (XR (by unfold tV; rw [isi rfl]; rfl) (cN _ (BP ?_ rfl) (gU ?_))))
  ·simp only [cV,aH,fD,aQ,aN,tM,fR,rG,rH,BY,sX,cR,cM,aB,eC,aE,tV,fE,lW,mC,fZ,VY,sL,SA,sM,kG,aC,aA,bA,aF,BU,iI,bE,aV,iW,XG,JZ,g1,g2,pU,nY,xN,bF,benv,NH,NG,oE,asInt,aM,iR,mQ,bQ,jY,Sv.all,Sv.rd,List.map_cons,List.map_nil,List.getElem?_cons_zero,List.getElem?_cons_succ,List.getElem?_nil,Option.join_some,Option.join_none,Option.bind_some,Option.bind_none,Option.map_some,Option.map_none,List.set_cons_zero,List.set_cons_succ,List.set_nil,List.length_cons,List.length_nil,List.length_map,List.cons_append,List.nil_append,List.replicate_succ,List.replicate_zero,Nat.reduceSub,Nat.reduceAdd,Nat.reduceEqDiff,p6,mU,mV,kM,SD,n0,tU,sV,sW,sY,zM,eU,zN,pW,j0,zP,tK,sZ,tB,zQ,kL,n6,tW,mS,mT,pX,pZ,p4,p5,p7,p8,tX,tY,if_true,if_false,ite_true,ite_false,reduceIte,decide_true,decide_false,decide_eq_true_eq,Bool.false_eq_true,Bool.not_true,Bool.not_false,tD,zR]
   simp [EG,tyM,cV,bQ,iI,EH,aB,Sv.all,kF]
  ·have e1:=j9 (nl:=1) (fr:=[0,1]) (it:=aV (aA (bA bL (aA (aB 1) aC)) aC)) (g:=g1 0) (t:=bF) (e:=aF (aZ n) (aA (aE bZ (aB 1) (aB 0)) (aA (aE bZ (aB 2) (aB 0)) aC))) (ρ:=[some (.tup ds),some (.tup ds)]) ((cQ 0 ds.length).map D.int) (ys:=(cQ 0 ds.length).map fun _=>D.bl true)
    (by simp only [cV,aH,fD,aQ,aN,tM,fR,rG,rH,BY,sX,cR,cM,aB,eC,aE,tV,fE,lW,mC,fZ,VY,sL,SA,sM,kG,aC,aA,bA,aF,BU,iI,bE,aV,iW,XG,JZ,g1,g2,pU,nY,xN,bF,benv,NH,NG,oE,asInt,aM,iR,mQ,bQ,jY,Sv.all,Sv.rd,List.map_cons,List.map_nil,List.getElem?_cons_zero,List.getElem?_cons_succ,List.getElem?_nil,Option.join_some,Option.join_none,Option.bind_some,Option.bind_none,Option.map_some,Option.map_none,List.set_cons_zero,List.set_cons_succ,List.set_nil,List.length_cons,List.length_nil,List.length_map,List.cons_append,List.nil_append,List.replicate_succ,List.replicate_zero,Nat.reduceSub,Nat.reduceAdd,Nat.reduceEqDiff,p6,mU,mV,kM,SD,n0,tU,sV,sW,sY,zM,eU,zN,pW,j0,zP,tK,sZ,tB,zQ,kL,n6,tW,mS,mT,pX,pZ,p4,p5,p7,p8,tX,tY,if_true,if_false,ite_true,ite_false,reduceIte,decide_true,decide_false,decide_eq_true_eq,Bool.false_eq_true,Bool.not_true,Bool.not_false,tD,zR]; exact n8 (by omega)) (by rw [List.length_map,bV]; omega) (xP D.int (fun _=>D.bl true) (cQ 0 ds.length) fun k hk=>by
     have hk:=dH.mp hk
     obtain ⟨x,hx,e,_⟩:=zT (xs:=ds) (i:=k) (by omega) (by omega)
     show aF (aZ n) _ _=_
     exact eK (cC rfl rfl e) (cC rfl rfl e) (same_refl n x (h.2 x hx)))
   refine fA e1 ?_
   have:(cQ 0 ds.length).map (fun _=>D.bl true)=((cQ 0 ds.length).map fun _=>true).map D.bl:=by rw [List.map_map]; rfl
   rw [this,HQ]
   congr 2
   simp
 | n+1,.int i,_=>by
  unfold aZ
  refine gR rfl (cN _ (BP rfl rfl) (cN _ (BP rfl rfl) (cN _ (BP rfl rfl) (NS (XR rfl (gU ?_))))))
  show fZ _ _ _=_
  simp [fZ,sL,iI,EH,aB,EG,tyM,rF,aE,eU,pW,j0,cV,bQ,Sv.all]
 | n+1,.bl b,_=>by
  unfold aZ
  refine gR rfl (cN _ (BP rfl rfl) (cN _ (BP rfl rfl) (NS (XR rfl (gU ?_)))))
  simp [fZ,sL,iI,EH,aB,EG,tyM,rF,aE,eU,pW,j0,cV,bQ,Sv.all]
 | n+1,.non,_=>by
  unfold aZ
  exact gR rfl (cN _ (BP rfl rfl) (NS (XR rfl (gU rfl))))
 | n+1,.str x,_=>by
  unfold aZ
  refine gR rfl (cN _ (BP rfl rfl) (cN _ (BP rfl rfl) (cN _ (BP rfl rfl) (cN _ (BP rfl rfl) (gU ?_)))))
  simp [fZ,sL,iI,EH,aB,EG,tyM,rF,aE,eU,pW,j0,cV,bQ,Sv.all]
 | n+1,.lst _,h=>h.elim
 | n+1,.nW _,h=>h.elim
 | n+1,.iQ _ _,h=>h.elim
 | n+1,.iH _ _ _,h=>h.elim
 | n+1,.exc _ _,h=>h.elim
 | n+1,.rws _,h=>h.elim
theorem EY {n:Nat} {xs:List Int} (h:xs.length<=1000000):zW (n+2) (tupI xs):=⟨by rw [List.length_map]; exact h,fun d hd=>by
 obtain ⟨i,_,rfl⟩:=List.mem_map.mp hd; trivial⟩
theorem EZ {n:Nat} {rows:List (List Int)} (h:rows.length<=1000000) (h2:∀ r∈rows,r.length<=1000000):zW (n+3) (aY rows):=⟨by rw [List.length_map]; exact h,fun d hd=>by
 obtain ⟨r,hr,rfl⟩:=List.mem_map.mp hd; exact EY (h2 r hr)⟩
noncomputable def row (rows:List (List Int)) (b:Int):List Int:=(rows[b.toNat]?).getD []
theorem mY {rows:List (List Int)} {i:Int} (h0:0<=i) (h1:i<rows.length):bZ (aY rows) (.int i)=some (tupI (row rows i)):=by
 have hl:i.toNat<rows.length:=by omega
 rw [show aY rows=.tup (rows.map tupI) from rfl,tB,tE]
 unfold wL row
 rw [zS h0 h1]
 simp [hl]
theorem uA {i:Int} {xs:List Int}:jX false (.int i) (tupI xs)=some (.bl (xs.contains i)):=by
 unfold tupI; rw [tD]; rfl
theorem lI {rows:List (List Int)}:bL [aY rows]=some (.int rows.length):=by unfold aY; rw [n6,List.length_map]
theorem zipIdx_map {α β:Type} (f:α->β) (l:List α) (m:Nat):(l.map f).zipIdx m=(l.zipIdx m).map fun p=>(f p.1,p.2):=by
 induction l generalizing m with
 | nil=>rfl
 | cons a l ih=>simp [List.zipIdx_cons,ih]
theorem rN (a n:Int):fH [.int a,.int n]=.ok (.bl (decide (0<=a)&&decide (a<n))):=by
 unfold fH
 refine gR rfl (gU ?_)
 show kG leM R4 (eC (.int 0)) (aB 0) (aB 1) [some (.int a),some (.int n)]=_
 unfold kG
 simp only [eC,aB,List.getElem?_cons_zero,List.getElem?_cons_succ,Option.join_some,Option.bind_some,sW,sV,kM]
 by_cases h:0<=a
 ·simp [h]
 ·simp [h]
noncomputable def N4 (rows:List (List Int)) (a b:Int):Bool:=!decide (a=b)&&(!(row rows b).contains a && !(row rows a).contains b)
noncomputable def pairD (p:Int×Int):D:=.tup [.int p.1,.int p.2]
noncomputable def SS (rows:List (List Int)) (a:Int):List (Int×Int):=((cQ (a+1) (rows.length - (a+1)).toNat).filter fun b=>N4 rows a b).map fun b=>(a,b)
noncomputable def loose (rows:List (List Int)):List (Int×Int):=(cQ 0 rows.length).flatMap (SS rows)
end LL
end
section
namespace Ord
noncomputable def rel (rows:List (List Int)) (a b:Nat):Bool:=(rows.getD b []).contains (a:Int)
theorem Rows.aE9 {rows:List (List Int)} (h:Rows rows) {a:Nat} (ha:a<rows.length):rel rows a a=false:=by
 unfold rel
 rw [List.getD_eq_getElem?_getD,List.getElem?_eq_getElem ha]
 have:=h.R7 a _ (List.getElem?_eq_getElem ha)
 simpa using this
theorem Rows.tr' {rows:List (List Int)} (h:Rows rows) {a b c:Nat} (hb:b<rows.length) (hc:c<rows.length) (h1:rel rows a b=true) (h2:rel rows b c=true):rel rows a c=true:=by
 unfold rel at *
 rw [List.getD_eq_getElem?_getD,List.getElem?_eq_getElem hb] at h1
 rw [List.getD_eq_getElem?_getD,List.getElem?_eq_getElem hc] at h2 ⊢
 have h1:(a:Int)∈rows[b]:=by simpa using h1
 have h2:(b:Int)∈rows[c]:=by simpa using h2
 have:=h.tr c b _ _ (List.getElem?_eq_getElem hc) h2 (List.getElem?_eq_getElem hb) _ h1
 simpa using this
end Ord
end
section
namespace Ord
theorem SU {x:List (List Int)} {a b:Nat} {r:List Int} (h:x[b]? = some r):rel x a b=true↔(a:Int)∈r:=by
 unfold rel
 rw [List.getD_eq_getElem?_getD,h]
 simp
theorem XW (lo:Int) (n:Nat):(L4.cQ lo n).Pairwise (·<·):=List.Pairwise.map _ (fun a b (h:a<b)=>by omega) List.pairwise_lt_range
theorem Rows.short {x:List (List Int)} (h:Rows x) {r:List Int} (hr:r∈x):r.length<=x.length:=by
 obtain ⟨b,hb⟩:=List.mem_iff_getElem?.mp hr
 have nd:r.Nodup:=(h.up b r hb).imp fun q=>by omega
 have:=eJ r (L4.cQ 0 x.length) nd fun a ha=>LL.dH.mpr (by have:=h.rng b r hb a ha; omega)
 rwa [LL.bV] at this
end Ord
end
section
namespace R8
open PySem L3 L4
noncomputable def kE:dP:=aX 2 2
  (aQ (bA bH (aA (bC 1 [1] (JZ (aA (aB 0) aC)) (g1 0) bF (aE e9 (aE e9 (aB 1) (eC (.int 1))) (aB 0))) aC)))
noncomputable def iL:dP:=aX 1 1
  (aQ (bA bH (aA (bC 1 [0] (JZ (aA (aB 0) aC)) (g1 0) bF (aF kE (aA (aB 0) (aA (bA bL (aA (aB 1) aC)) aC)))) aC)))
noncomputable def cU:dP:=aX 3 1
  (aH (aN 1 (dD aC))
  (aH (cR (aV (aA (bA bL (aA (aB 0) aC)) aC)) (pU 2)
   (aN 1 (aE bM (aB 1) (bC 1 [2] (bE (aE bZ (aB 0) (aB 2))) (g1 0) bF (dE (aA (aB 0) (aA (aB 1) aC)))))))
  (aQ (bA iK (aA (aB 1) aC)))))
noncomputable def uB:dP:=aX 2 2
  (aQ (bA bH (aA (bC 1 [1] (aV (aA (aB 0) aC)) (g1 0) bF (bA bH (aA (bA fC (aA (bC 2 [0] (bE (aB 1)) (g2 0 1) (tV (aE jI (aB 1) (aB 2))) (aB 0)) aC)) aC))) aC)))
noncomputable def mF:dP:=aX 7 1
  (aH (aN 1 (aF LL.dQ (aA (aB 0) (aA (eC (.int 0)) (aA (eC (.int 9)) (aA (eC (.int 100003)) aC))))))
  (aH (aN 2 (bA bL (aA (aB 1) aC)))
  (aH (aN 3 (aF cU (aA (aB 1) aC)))
  (aH (aN 4 (aF uB (aA (aB 2) (aA (bC 2 [2] (bE (aB 3)) (g2 0 1) bF (dE (aA (aE e9 (aE e9 (aB 2) (eC (.int 1))) (aB 0)) (aA (aE e9 (aE e9 (aB 2) (eC (.int 1))) (aB 1)) aC)))) aC))))
  (aH (aN 5 (aF uB (aA (aB 2) (aA (bC 2 [] (bE (aB 3)) (g2 0 1) bF (dE (aA (aB 1) (aA (aB 0) aC)))) aC))))
  (aH (aN 6 (aF uB (aA (aB 2) (aA (bC 2 [2] (bE (aB 3)) (g2 0 1) bF (dE (aA (aE e9 (aE e9 (aB 2) (eC (.int 1))) (aB 1)) (aA (aE e9 (aE e9 (aB 2) (eC (.int 1))) (aB 0)) aC)))) aC))))
  (aH (fD (mC (fE (tV (aF (LL.aZ 6) (aA (aF iL (aA (aB 1) aC)) (aA (aB 4) aC))))) (fE (tV (aF (LL.aZ 6) (aA (aF LL.jC (aA (aB 1) aC)) (aA (aB 5) aC))))))
   (aQ (eC (.bl false)))
   cM)
  (aH (fD (mC (fE (tV (aF (LL.aZ 6) (aA (aF iL (aA (aB 4) aC)) (aA (aB 1) aC))))) (fE (tV (aF (LL.aZ 6) (aA (aF LL.jC (aA (aB 5) aC)) (aA (aB 1) aC))))))
   (aQ (eC (.bl false)))
   cM)
  (aQ (fZ (aF (LL.aZ 6) (aA (aF iL (aA (aB 5) aC)) (aA (aB 6) aC))) (aF (LL.aZ 6) (aA (aF LL.jC (aA (aB 4) aC)) (aA (aB 6) aC)))))))))))))
end R8
end
section
namespace R8
open PySem L3 L4 LL
noncomputable def pr (p:Int×Int):List Int:=[p.1,p.2]
noncomputable def dI (x:List (List Int)) (k:Nat):List (Int×Int):=(cQ 0 k).flatMap fun b=>(row x b).map fun a=>(a,b)
theorem iM (x:List (List Int)) (k:Nat):dI x (k+1)=dI x k++(row x (k:Int)).map fun a=>(a,(k:Int)):=by
 unfold dI
 rw [J3,List.flatMap_append]
 simp
theorem kN {x:List (List Int)} {p:Int×Int}:p∈dI x x.length↔0<=p.2/\p.2<(x.length:Int)/\p.1∈row x p.2:=by
 unfold dI
 rw [List.mem_flatMap]
 constructor
 ·rintro ⟨b,hb,hp⟩
  obtain ⟨a,ha,rfl⟩:=List.mem_map.mp hp
  have:=dH.mp hb
  exact ⟨by omega,by omega,ha⟩
 ·rintro ⟨h0,h1,h2⟩
  exact ⟨p.2,dH.mpr (by omega),List.mem_map.mpr ⟨p.1,h2,rfl⟩⟩
theorem gM {x:List (List Int)} {b:Int} (h0:0<=b) (h1:b<(x.length:Int)):x[b.toNat]? = some (row x b):=by
 have:b.toNat<x.length:=by omega
 unfold row
 rw [List.getElem?_eq_getElem this]
 rfl
theorem B8 {x:List (List Int)} {a b:Nat} (hb:b<x.length):(((a:Int),(b:Int))∈dI x x.length)↔Ord.rel x a b=true:=by
 rw [kN]
 have e:=gM (x:=x) (b:=(b:Int)) (by omega) (by omega)
 rw [Int.toNat_natCast] at e
 rw [Ord.SU e]
 constructor
 ·rintro ⟨_,_,h⟩; exact h
 ·intro h; exact ⟨by show (0:Int)<=(b:Int); omega,by show (b:Int)<_; omega,h⟩
theorem E2 {x:List (List Int)} (hx:Ord.Rows x):(dI x x.length).Nodup:=by
 unfold dI
 rw [List.Nodup,List.pairwise_flatMap]
 constructor
 ·intro b hb
  have hb:=dH.mp hb
  have nd:(row x b).Nodup:=(hx.up _ _ (gM (by omega) (by omega))).imp fun q=>by omega
  exact List.Pairwise.map _ (fun a c h e=>h (congrArg Prod.fst e)) nd
 ·refine (Ord.XW 0 x.length).imp fun {b c} h p hp q hq e=>?_
  obtain ⟨a,_,rfl⟩:=List.mem_map.mp hp
  obtain ⟨a2,_,rfl⟩:=List.mem_map.mp hq
  have:=congrArg Prod.snd e
  simp at this
  omega
theorem oA {x:List (List Int)} (hx:Ord.Rows x) (hn:x.length<=9):∀ k,k<=x.length->(dI x k).length<=k*8:=by
 intro k
 induction k with
 | zero=>intro _; simp [dI,cQ]
 | succ k ih =>
  intro hk
  rw [iM,List.length_append,List.length_map]
  have h1:=ih (by omega)
  have e:=gM (x:=x) (b:=(k:Int)) (by omega) (by omega)
  rw [Int.toNat_natCast] at e
  have nd:(row x (k:Int)).Nodup:=(hx.up _ _ e).imp fun q=>by omega
  have h2:((k:Int)::row x (k:Int)).length<=(cQ 0 x.length).length:=Ord.eJ _ _ (List.nodup_cons.mpr ⟨hx.R7 _ _ e,nd⟩) fun a ha=>by
   rcases List.mem_cons.1 ha with rfl | ha
   ·exact dH.mpr (by omega)
   ·have:=hx.rng _ _ e a ha
    exact dH.mpr (by omega)
  rw [bV,List.length_cons] at h2
  omega
noncomputable def un (t:List Int):Int×Int:=(t.getD 0 0,t.getD 1 0)
noncomputable def srt (l:List (Int×Int)):List (Int×Int):=(rJ (l.map pr)).map un
theorem uC (l:List (Int×Int)):(srt l).Perm l:=by
 have:=(jZ (l.map pr)).map un
 rw [List.map_map] at this
 have e:(un∘pr)=id:=funext fun p=>rfl
 rw [e,List.map_id] at this
 exact this
theorem SV (l:List (Int×Int)):(rJ (l.map pr)).map nZ=(srt l).map pairD:=by
 unfold srt
 rw [List.map_map]
 refine List.map_congr_left fun t ht=>?_
 obtain ⟨p,_,rfl⟩:=List.mem_map.mp ((jZ (l.map pr)).mem_iff.mp ht)
 rfl
theorem uD:∀ l:List (Int×Int),mR (l.map pairD)=some (l.map pr)
 | []=>rfl
 | p::l=>by
  rw [List.map_cons,mR,uD l]
  rfl
theorem uE {l:List (Int×Int)} (h:l.length<64):iK [.lst (l.map pairD)]=some (.lst ((srt l).map pairD)):=by
 unfold iK
 simp only [uD,Option.bind_some]
 rw [if_pos ⟨by simpa using h,List.all_eq_true.mpr fun t ht=>by obtain ⟨p,_,rfl⟩:=List.mem_map.mp ht; rfl⟩,SV]
theorem SW {x:List (List Int)} (hx:Ord.Rows x) (hn:x.length<=9) (h64:(dI x x.length).length<64):cU [aY x]=.ok (.lst ((srt (dI x x.length)).map pairD)):=by
 unfold cU
 refine gR rfl (cN _ (iS (.lst []) rfl rfl) ?_)
 obtain ⟨ρ',e,v2,rfl⟩:Nx (cR (aV (aA (bA bL (aA (aB 0) aC)) aC)) (pU 2)
   (aN 1 (aE bM (aB 1) (bC 1 [2] (bE (aE bZ (aB 0) (aB 2))) (g1 0) bF (dE (aA (aB 0) (aA (aB 1) aC))))))
   [Sv.ro (aY x),Sv.ro (.lst []),Sv.no]) (fun ρ=>∃ v2,ρ=[Sv.ro (aY x),Sv.ro (.lst ((dI x x.length).map pairD)),v2]):=by
  refine zU x.length (fun i ρ=>∃ v2,ρ=[Sv.ro (aY x),Sv.ro (.lst ((dI x i).map pairD)),v2]) (args1 (fA rfl lI)) (by omega) ⟨_,rfl⟩ ?_ fun ρ h=>h
  rintro i _ hi ⟨v2,rfl⟩
  have hl:=oA hx hn i (by omega)
  have hl2:=oA hx hn (i+1) (by omega)
  rw [iM,List.length_append] at hl2
  refine ⟨_,rfl,_,iS (.lst ((dI x (i+1)).map pairD)) (cC (x:=.lst ((dI x i).map pairD)) (y:=.lst (((row x (i:Int)).map fun a=>(a,(i:Int))).map pairD)) rfl (j9 ((row x (i:Int)).map D.int) ?_ (by simp at hl2 ⊢; omega) ?_) ?_) rfl,_,rfl⟩
  ·unfold bE
   rw [cC (x:=aY x) (y:=.int (i:Int)) rfl rfl (mY (by omega) (by omega))]
   rfl
  ·rw [List.map_map]
   exact fI D.int _ (row x (i:Int)) fun a _=>⟨_,rfl,rfl⟩
  ·rw [B2 (by simp at hl2 ⊢; omega),iM,List.map_append]
 exact cN _ e (gU (fA rfl (uE h64)))
noncomputable def code (p:Int×Int):Int:=if p.1<p.2 then p.1*9+p.2 else p.2*9+p.1
noncomputable def codes:List Int:=(cQ 0 9).flatMap fun i=>(cQ (i+1) (8 - i).toNat).map fun j=>i*9+j
theorem uF {x:List (List Int)} (hx:Ord.Rows x) {a b:Int} (h1:(a,b)∈dI x x.length) (h2:(b,a)∈dI x x.length):False:=by
 obtain ⟨b0,b1,h1'⟩:=kN.mp h1
 obtain ⟨a0,a1,h2'⟩:=kN.mp h2
 simp only at b0 b1 a0 a1 h1' h2'
 obtain ⟨m,rfl⟩:∃ m:Nat,a=(m:Int):=⟨a.toNat,by omega⟩
 obtain ⟨k,rfl⟩:∃ k:Nat,b=(k:Int):=⟨b.toNat,by omega⟩
 have:=hx.tr' (by omega) (by omega) ((B8 (by omega)).mp h1) ((B8 (by omega)).mp h2)
 rw [hx.aE9 (by omega)] at this
 cases this
theorem oB {a b c d:Int} (hb:0<=b/\b<9) (hd:0<=d/\d<9) (e:a*9+b=c*9+d):a=c/\b=d:=by omega
theorem HV {x:List (List Int)} (hx:Ord.Rows x) (hn:x.length<=9):(dI x x.length).length<=36:=by
 have rg:∀ p∈dI x x.length,0<=p.1/\p.1<9/\0<=p.2/\p.2<9/\p.1≠p.2:=fun p hp=>by
  obtain ⟨h0,h1,h2⟩:=kN.mp hp
  have e:=gM h0 h1
  obtain ⟨q1,q2⟩:=hx.rng _ _ e _ h2
  refine ⟨q1,by omega,h0,by omega,fun z=>?_⟩
  obtain ⟨a,b⟩:=p
  simp only at z
  subst z
  exact uF hx hp hp
 have nd:((dI x x.length).map code).Nodup:=by
  rw [List.Nodup,List.pairwise_map]
  refine List.Pairwise.imp_of_mem (fun {p q} hp hq hpq e=>?_) (E2 hx)
  have rp:=rg p hp
  have rq:=rg q hq
  obtain ⟨a,b⟩:=p
  obtain ⟨c,d⟩:=q
  simp only at rp rq
  unfold code at e
  simp only at e
  by_cases h1:a<b<;>by_cases h2:c<d
  ·rw [if_pos h1,if_pos h2] at e
   obtain ⟨rfl,rfl⟩:=oB ⟨rp.2.2.1,rp.2.2.2.1⟩ ⟨rq.2.2.1,rq.2.2.2.1⟩ e
   exact hpq rfl
  ·rw [if_pos h1,if_neg h2] at e
   obtain ⟨rfl,rfl⟩:=oB ⟨rp.2.2.1,rp.2.2.2.1⟩ ⟨rq.1,rq.2.1⟩ e
   exact uF hx hp hq
  ·rw [if_neg h1,if_pos h2] at e
   obtain ⟨rfl,rfl⟩:=oB ⟨rp.1,rp.2.1⟩ ⟨rq.2.2.1,rq.2.2.2.1⟩ e
   exact uF hx hp hq
  ·rw [if_neg h1,if_neg h2] at e
   obtain ⟨rfl,rfl⟩:=oB ⟨rp.1,rp.2.1⟩ ⟨rq.1,rq.2.1⟩ e
   exact hpq rfl
 have:=Ord.eJ _ codes nd fun z hz=>by
  obtain ⟨p,hp,rfl⟩:=List.mem_map.mp hz
  have:=rg p hp
  unfold code codes
  by_cases h:p.1<p.2
  ·rw [if_pos h,List.mem_flatMap]
   exact ⟨p.1,dH.mpr (by omega),List.mem_map.mpr ⟨p.2,dH.mpr (by omega),rfl⟩⟩
  ·rw [if_neg h,List.mem_flatMap]
   exact ⟨p.2,dH.mpr (by omega),List.mem_map.mpr ⟨p.1,dH.mpr (by omega),rfl⟩⟩
 rw [List.length_map] at this
 have e:codes.length=36:=by decide +kernel
 omega
theorem uG {x:List (List Int)} (hx:Ord.Rows x) (hn:x.length<=9):(dI x x.length).length<64:=by
 have:=HV hx hn
 omega
end R8
end
section
namespace dR
open PySem L3 L4
noncomputable def eA:dP:=aX 4 1
  (aH (fR 1 (dD aC))
  (aH (cR (iW (aA (aB 0) aC)) (nY 2 3)
   (sX (iR 1 BX (aM (bC 1 [2] (bE (aB 3)) (g1 0) bF (dE (aA (aB 0) (aA (aB 1) aC))))))))
  (aQ (bA bH (aA (bA iK (aA (aB 1) aC)) aC)))))
noncomputable def fJ:dP:=aX 4 2
  (aH (aN 2 (aE bZ (aB 1) (eC (.int 0))))
  (aH (aN 3 (aE bZ (aB 1) (eC (.int 1))))
  (aQ (sL (bA anyM (aA (bC 1 [2,0] (bE (aE bZ (aB 0) (aB 3))) (g1 0) bF (aE (jX false) (aB 1) (aE bZ (aB 2) (aB 0)))) aC))))))
noncomputable def cZ:dP:=aX 1 1
  (aQ (bA bH (aA (bC 1 [0] (bE (aF eA (aA (aB 0) aC))) (g1 0) (tV (aF fJ (aA (aB 1) (aA (aB 0) aC)))) (aB 0)) aC)))
noncomputable def cU:dP:=aX 3 1
  (aH (aN 1 (dD aC))
  (aH (cR (aV (aA (bA bL (aA (aB 0) aC)) aC)) (pU 2)
   (aN 1 (aE bM (aB 1) (bC 1 [2] (bE (aE bZ (aB 0) (aB 2))) (g1 0) bF (dE (aA (aB 0) (aA (aB 1) aC)))))))
  (aQ (bA iK (aA (aB 1) aC)))))
noncomputable def mZ:dP:=aX 9 2
  (aH (fR 2 (dD aC))
  (aH (cR (aV (aA (aB 0) aC)) (pU 3)
   (aH (fR 4 (dD aC))
   (aH (fR 5 (dD (aA (aB 3) aC)))
   (aH (EM EL (tV (aE EC (bA bL (aA (aB 5) aC)) (eC (.int 0))))
    (aH (tM 6 (NJ 5))
    (cR (bE (aB 1)) (nY 7 8)
     (fD (lW (tV (aE jI (aB 8) (aB 6))) (tV (aE (jX true) (aB 7) (aB 4))))
      (aH (sX (iR 4 eF (aM (aB 7))))
      (sX (iR 5 eF (aM (aB 7)))))
      cM))))
   (aH (fD (tV (aE (jX false) (aB 3) (aB 4)))
    (aQ (eC .non))
    cM)
   (sX (iR 2 eF (mE (bA bH (aA (bA fC (aA (aB 4) aC)) aC))))))))))
  (aQ (bA bH (aA (aB 2) aC)))))
noncomputable def gS:dP:=aX 5 1
  (aH (fR 1 (dD aC))
  (aH (cR (bE (aF cU (aA (aB 0) aC))) (nY 2 3)
   (aH (aN 4 (bC 1 [2,0,3] (aV (aA (bA bL (aA (aB 0) aC)) aC)) (g1 0) (lW (tV (aE (jX false) (aB 1) (aE bZ (aB 2) (aB 0)))) (tV (aE (jX false) (aB 0) (aE bZ (aB 2) (aB 3))))) (aB 0)))
   (fD (tV (aE jI (bA bL (aA (aB 4) aC)) (eC (.int 0))))
    (sX (iR 1 eF (aM (dE (aA (aB 2) (aA (aB 3) aC))))))
    cM)))
  (aQ (aB 1))))
noncomputable def dF:dP:=aX 2 1
  (aH (aN 1 (aF cZ (aA (aB 0) aC)))
  (aH (fD (mC (fE (tV (aF (LL.aZ 6) (aA (aF eA (aA (aB 0) aC)) (aA (bA bH (aA (aF cU (aA (aB 0) aC)) aC)) aC))))) (fE (tV (aF (LL.aZ 6) (aA (aB 1) (aA (bA bH (aA (aF gS (aA (aB 0) aC)) aC)) aC))))))
   (aQ (eC (.bl false)))
   cM)
  (aQ (aE aAn (aF mZ (aA (bA bL (aA (aB 0) aC)) (aA (aB 1) aC))) (aB 0)))))
noncomputable def mF:dP:=aX 3 1
  (aH (aN 1 (aF LL.dQ (aA (aB 0) (aA (eC (.int 0)) (aA (eC (.int 9)) (aA (eC (.int 100003)) aC))))))
  (aH (aN 2 (aF LL.dQ (aA (aB 0) (aA (eC (.int 2)) (aA (eC (.int 9)) (aA (eC (.int 300007)) aC))))))
  (aQ (fZ (aF dF (aA (aB 1) aC)) (fZ (aF dF (aA (aB 2) aC)) (aF dF (aA (aB 1) aC)))))))
end dR
end
section
namespace dR
open PySem L3 L4 LL R8
theorem sXE {x:XF} {ρ ρ':aT} {d:D} (h:x ρ=some (ρ',d)):sX x ρ=.nx ρ':=by unfold sX; rw [h]
theorem SX {i:Nat} {m:List D->D->Option (List D×D)} {x:XF} {ρ ρ1:aT} {d:D} {ds0 ds:List D} {q:List D×D} (h0:mQ ρ[i]? = some ds0) (hx:x ρ=some (ρ1,d)) (h1:mQ ρ1[i]? = some ds) (hm:m ds d=some q) :
  iR i m x ρ=some (ρ1.set i (.ow (.lst q.1)),q.2):=by
 unfold iR
 rw [h0,Option.bind_some,hx,Option.bind_some,h1,Option.bind_some,hm]
 rfl
section
variable {x:List (List Int)} (hx:Ord.Rows x)
include hx
theorem gZ {a c:Int} (h0:0<=c) (h1:c<(x.length:Int)) (h:a∈row x c):0<=a/\a<(x.length:Int):=hx.rng _ _ (gM h0 h1) a h
theorem zX {a b c:Int} (h0:0<=c) (h1:c<(x.length:Int)) (hb:b∈row x c) (ha:a∈row x b):a∈row x c:=by
 obtain ⟨b0,b1⟩:=gZ hx h0 h1 hb
 exact hx.tr c.toNat b.toNat _ _ (gM h0 h1) (by rw [show ((b.toNat:Nat):Int)=b by omega]; exact hb) (gM b0 b1) a ha
theorem HW {c:Int} (h0:0<=c) (h1:c<(x.length:Int)):c∉row x c:=fun h=>hx.R7 c.toNat _ (gM h0 h1) (by rw [show ((c.toNat:Nat):Int)=c by omega]; exact h)
theorem XX {c:Int} (h0:0<=c) (h1:c<(x.length:Int)):(row x c).Nodup:=(hx.up _ _ (gM h0 h1)).imp fun q=>by omega
theorem aBC {c:Int} (h0:0<=c) (h1:c<(x.length:Int)):(row x c).length<=x.length:=by
 have:=Ord.eJ (row x c) (cQ 0 x.length) (XX hx h0 h1) fun a ha=>dH.mpr (by have:=gZ hx h0 h1 ha; omega)
 rwa [bV] at this
end
noncomputable def e8 (x:List (List Int)) (p:Int×Int):Bool:=!(row x p.2).any fun c=>(row x c).contains p.1
noncomputable def J4 (x:List (List Int)) (a c:Int):List Int:=(row x c).filter fun e=>(row x e).contains a
theorem hZ {x:List (List Int)} {a c e:Int}:e∈J4 x a c↔e∈row x c/\a∈row x e:=by
 unfold J4
 rw [List.mem_filter]
 simp
theorem B9 {x:List (List Int)} {a c:Int}:e8 x (a,c)=decide (J4 x a c=[]):=by
 unfold e8 J4
 rw [Bool.eq_iff_iff]
 simp [List.filter_eq_nil_iff]
theorem reach {x:List (List Int)} (hx:Ord.Rows x) {b:Int} (h0:0<=b) (h1:b<(x.length:Int)) {u:List Int} (hu:∀ a∈u,a∈row x b)
  (hc:∀ c,(c=b\/c∈u) -> ∀ a,a∈row x c->e8 x (a,c)=true->a∈u):∀ (k:Nat) (a c:Int),(J4 x a c).length<=k->(c=b\/c∈u)->a∈row x c->a∈u:=by
 have cr:∀ c,(c=b\/c∈u)->0<=c/\c<(x.length:Int):=fun c h=>by
  rcases h with rfl | h
  ·exact ⟨h0,h1⟩
  ·exact gZ hx h0 h1 (hu c h)
 intro k
 induction k with
 | zero =>
  intro a c hl hcc ha
  refine hc c hcc a ha ?_
  rw [B9,decide_eq_true_eq]
  exact List.eq_nil_of_length_eq_zero (by omega)
 | succ k ih =>
  intro a c hl hcc ha
  cases q:J4 x a c with
  | nil=>exact hc c hcc a ha (by rw [B9,q]; rfl)
  | cons e r =>
   obtain ⟨c0,c1⟩:=cr c hcc
   obtain ⟨he,hae⟩:=hZ.mp (by rw [q]; exact List.mem_cons_self:e∈J4 x a c)
   obtain ⟨e0,e1⟩:=gZ hx c0 c1 he
   obtain ⟨a0,a1⟩:=gZ hx c0 c1 ha
   have nd1:(J4 x e c).Nodup:=List.Pairwise.filter _ (XX hx c0 c1)
   have nd2:(J4 x a e).Nodup:=List.Pairwise.filter _ (XX hx e0 e1)
   have l1:=Ord.eJ (e::J4 x e c) (J4 x a c) (List.nodup_cons.mpr ⟨fun z=>HW hx e0 e1 (hZ.mp z).2,nd1⟩) fun z hz=>by
    rcases List.mem_cons.1 hz with rfl | hz
    ·exact hZ.mpr ⟨he,hae⟩
    ·obtain ⟨z1,z2⟩:=hZ.mp hz
     obtain ⟨y0,y1⟩:=gZ hx c0 c1 z1
     exact hZ.mpr ⟨z1,zX hx y0 y1 z2 hae⟩
   have l2:=Ord.eJ (e::J4 x a e) (J4 x a c) (List.nodup_cons.mpr ⟨fun z=>HW hx e0 e1 (hZ.mp z).1,nd2⟩) fun z hz=>by
    rcases List.mem_cons.1 hz with rfl | hz
    ·exact hZ.mpr ⟨he,hae⟩
    ·obtain ⟨z1,z2⟩:=hZ.mp hz
     exact hZ.mpr ⟨zX hx c0 c1 he z1,z2⟩
   rw [List.length_cons] at l1 l2
   have hu2:=ih e c (by omega) hcc he
   exact ih a e (by omega) (.inr hu2) hae
structure Cl (x:List (List Int)) (P:List (Int×Int)) (b:Int) (u f:List Int):Prop where
 nd:u.Nodup
 sub:∀ a∈u,a∈row x b
 fr:∀ a∈f,a=b\/a∈u
 cl:∀ c,(c=b\/c∈u)->c∉f -> ∀ a,(a,c)∈P->a∈u
noncomputable abbrev T (x:List (List Int)):List (Int×Int):=srt (dI x x.length)
theorem m9 {x:List (List Int)} (hx:Ord.Rows x) (hn:x.length<=9):eA [aY x]=.ok (.tup ((T x).map pairD)):=by
 have h64:=uG hx hn
 unfold eA
 refine gR rfl (cN [.ro (aY x),.ow (.lst []),.no,.no] rfl ?_)
 obtain ⟨ρ',e,v2,v3,rfl⟩:Nx (cR (iW (aA (aB 0) aC)) (nY 2 3)
   (sX (iR 1 BX (aM (bC 1 [2] (bE (aB 3)) (g1 0) bF (dE (aA (aB 0) (aA (aB 1) aC))))))) [.ro (aY x),.ow (.lst []),.no,.no])
   (fun ρ=>∃ v2 v3,ρ=[Sv.ro (aY x),Sv.ow (.lst ((dI x x.length).map pairD)),v2,v3]):=by
  refine t7 ((x.map tupI).zipIdx.map fun p=>.tup [.int (p.2:Int),p.1]) (fun i ρ=>∃ v2 v3,ρ=[Sv.ro (aY x),Sv.ow (.lst ((dI x i).map pairD)),v2,v3]) rfl ⟨_,_,rfl⟩ ?_ fun ρ h=>by simpa using h
  rintro i d _ hd ⟨v2,v3,rfl⟩
  rw [List.getElem?_map,List.getElem?_zipIdx,List.getElem?_map] at hd
  cases q:x[i]? with
  | none=>rw [q] at hd; cases hd
  | some r =>
   have hi:i<x.length:=(List.getElem?_eq_some_iff.mp q).1
   rw [q] at hd
   have hd:=Option.some.inj hd
   subst hd
   have er:row x (i:Int)=r:=by unfold row; rw [Int.toNat_natCast,q]; rfl
   have hl:=oA hx hn i (by omega)
   have hl2:=oA hx hn (i+1) (by omega)
   rw [iM,List.length_append,er] at hl2
   refine ⟨[.ro (aY x),.ow (.lst ((dI x i).map pairD)),.ro (.int (i:Int)),.ro (tupI r)],by show some [_,_,_,_]=_; rw [Nat.zero_add],_,sXE (SX (ρ1:=[.ro (aY x),.ow (.lst ((dI x i).map pairD)),.ro (.int (i:Int)),.ro (tupI r)]) (ds0:=(dI x i).map pairD) (ds:=(dI x i).map pairD) (d:=.lst ((r.map fun a=>(a,(i:Int))).map pairD)) rfl ?_ rfl (SI (by simp at hl2 ⊢; omega))),.ro (.int (i:Int)),.ro (tupI r),?_⟩
   ·unfold aM
    rw [j9 (r.map D.int) rfl (by simp at hl2 ⊢; omega) (fI D.int (fun a=>pairD (a,(i:Int))) r fun a _=>⟨_,rfl,rfl⟩),List.map_map]
    rfl
   ·rw [iM,List.map_append,er]
    rfl
 exact cN _ e (gU (fA (fA rfl (uE h64)) rfl))
theorem E3 {x:List (List Int)} (hx:Ord.Rows x) (hn:x.length<=9) {p:Int×Int} (h0:0<=p.2) (h1:p.2<(x.length:Int)):fJ [aY x,pairD p]=.ok (.bl (e8 x p)):=by
 unfold fJ
 have rl:=aBC hx h0 h1
 refine gR rfl (cN _ (iS (.int p.1) rfl rfl) (cN _ (iS (.int p.2) rfl rfl) (gU ?_)))
 unfold sL
 rw [fA (x:=.lst ((row x p.2).map fun c=>D.bl ((row x c).contains p.1))) (j9 ((row x p.2).map D.int) ?_ (by simp; omega) (fI D.int (fun c=>D.bl ((row x c).contains p.1)) (row x p.2) fun c hc=>⟨_,rfl,?_⟩)) (z:=some (.bl ((row x p.2).any fun c=>(row x c).contains p.1))) ?_]
 ·rfl
 ·unfold bE
  rw [cC (x:=aY x) (y:=.int p.2) rfl rfl (mY h0 h1)]
  rfl
 ·have:=HR (bs:=(row x p.2).map fun c=>(row x c).contains p.1)
  rw [List.map_map] at this
  rw [show ((row x p.2).map fun c=>D.bl ((row x c).contains p.1))=(row x p.2).map (D.bl∘fun c=>(row x c).contains p.1) from rfl,this,List.any_map]
  rfl
 ·have hr:=gZ hx h0 h1 hc
  exact cC (x:=.int p.1) (y:=tupI (row x c)) rfl (cC (x:=aY x) (y:=.int c) rfl rfl (mY hr.1 hr.2)) uA
theorem oC {x:List (List Int)} {p:Int×Int}:p∈T x↔0<=p.2/\p.2<(x.length:Int)/\p.1∈row x p.2:=by
 rw [(uC _).mem_iff,kN]
theorem HX {x:List (List Int)} (hx:Ord.Rows x) (hn:x.length<=9):(T x).length<64:=by
 rw [(uC _).length_eq]
 exact uG hx hn
noncomputable abbrev B (x:List (List Int)):List (Int×Int):=(T x).filter (e8 x)
theorem zY {x:List (List Int)} (hx:Ord.Rows x) (hn:x.length<=9):cZ [aY x]=.ok (.tup ((B x).map pairD)):=by
 unfold cZ
 have hl:=HX hx hn
 refine gR rfl (gU (fA (j9 ((T x).map pairD) ?_ (by simp; omega) (rL pairD (e8 x) pairD (T x) fun p hp=>⟨_,rfl,EX (eK rfl rfl (E3 hx hn (oC.mp hp).1 (oC.mp hp).2.1)) rfl,fun _=>rfl⟩)) rfl))
 unfold bE
 rw [gW rfl (m9 hx hn)]
 rfl
end dR
end
section
namespace LL
open PySem L3 L4
noncomputable def J5:dP:=aX 5 3
  (aH (fD (tV (aE geM (aB 0) (aE BS (eC (.int 10)) (eC (.int 18)))))
   (aQ (aE cJ (aE kH (aB 0) (eC (.int 64))) (aB 1)))
   cM)
  (aH (aN 3 (eC (.int 0)))
  (aH (cR (aV (aA (eC (.int 20)) aC)) (pU 4)
   (aN 3 (aE bM (aE mulM (aB 3) (eC (.int 1000000007))) (aF LL.eT (aA (aB 0) (aA (aB 4) (aA (aB 2) aC)))))))
  (aQ (aE cJ (aB 3) (aB 1))))))
noncomputable def eA:dP:=aX 4 1
  (aH (fR 1 (dD aC))
  (aH (cR (iW (aA (aB 0) aC)) (nY 2 3)
   (sX (iR 1 BX (aM (bC 1 [2] (bE (aB 3)) (g1 0) bF (dE (aA (aB 0) (aA (aB 1) aC))))))))
  (aQ (bA bH (aA (bA iK (aA (aB 1) aC)) aC)))))
noncomputable def cU:dP:=aX 3 1
  (aH (aN 1 (dD aC))
  (aH (cR (aV (aA (bA bL (aA (aB 0) aC)) aC)) (pU 2)
   (aN 1 (aE bM (aB 1) (bC 1 [2] (bE (aE bZ (aB 0) (aB 2))) (g1 0) bF (dE (aA (aB 0) (aA (aB 1) aC)))))))
  (aQ (bA iK (aA (aB 1) aC)))))
theorem runN {n np:Nat} {b:SF} {ds:List D} {ρ:aT} (hl:ds.length=np) (h:b (cV n ds)=.nx ρ):aX n np b ds=.ok .non:=by
 unfold aX
 rw [if_pos hl,h]
theorem aEa {r:RF} {f:SF} {ρ:aT} {o:Out} (h:r (bQ ρ)=none) (h2:f ρ=o):zJ r f ρ=o:=by
 unfold zJ
 rw [h]
 exact h2
theorem aEb {a:EF} {ρ:bN} {x:D} (ha:a ρ=some x):dE (aA a aC) ρ=some (.tup [x]):=HP (args1 ha) (by simp)
theorem aEc {a b:EF} {ρ:bN} {x y:D} (ha:a ρ=some x) (hb:b ρ=some y):dE (aA a (aA b aC)) ρ=some (.tup [x,y]):=HP (args2 ha hb) (by simp)
theorem m9 {x:List (List Int)} (hx:Ord.Rows x) (hn:x.length<=9):LL.eA [aY x]=.ok (.tup ((dR.T x).map pairD)):=dR.m9 hx hn
theorem xU {x:List (List Int)} (hx:Ord.Rows x) (hn:x.length<=9):LL.cU [aY x]=.ok (.lst ((dR.T x).map pairD)):=R8.SW hx hn (R8.uG hx hn)
noncomputable def at0 (fl:List Int) (a:Int):Int:=(fl[a.toNat]?).getD 0
theorem XY {fl:List Int} {a:Int} (h0:0<=a) (h1:a<(fl.length:Int)):bZ (tupI fl) (.int a)=some (.int (at0 fl a)):=by
 obtain ⟨x,_,e,e2⟩:=zT h0 h1
 show wL (fl.map D.int) a=_
 rw [tE,e]
 unfold at0
 rw [e2]
 rfl
theorem XZ {fl:List Int} {a:Int} (h0:0<=a) (h1:a<(fl.length:Int)):bZ (aL fl) (.int a)=some (.int (at0 fl a)):=XY h0 h1
noncomputable def aJ:dP:=aX 3 3
  (fD (mC (fE (tV (aF LL.fH (aA (aB 1) (aA (aB 0) aC))))) (fE (tV (aF LL.fH (aA (aB 2) (aA (aB 0) aC))))))
   (sU (aA (eC (.str "a number that is no thing of the order")) aC) "NoThing")
   cM)
noncomputable def bW:dP:=aX 8 3
  (aH (zJ (rK LL.aJ (aA (bA bL (aA (aB 0) aC)) (aA (aB 1) (aA (aB 2) aC)))) (sX (aM (aF LL.aJ (aA (bA bL (aA (aB 0) aC)) (aA (aB 1) (aA (aB 2) aC)))))))
  (aH (fD (mC (tV (aE jI (aB 1) (aB 2))) (tV (aE (jX false) (aB 2) (aE bZ (aB 0) (aB 1)))))
   (sU (aA (eC (.str "a thing would lie under itself")) aC) "Looped")
   cM)
  (aH (aN 3 (aE bM (aE bZ (aB 0) (aB 1)) (dE (aA (aB 1) aC))))
  (aH (fR 4 (dD aC))
  (aH (SE (cR (iW (aA (aB 0) aC)) (nY 5 6)
   (aH (aN 7 (VY (aE jI (aB 5) (aB 2)) (aE (jX false) (aB 2) (aB 6))))
   (sX (iR 4 eF (aM (SA (tV (aB 7)) (bA bH (aA (bA fF (aA (aE bM (aB 6) (aB 3)) aC)) aC)) (aB 6))))))))
  (aQ (bA bH (aA (aB 4) aC))))))))
theorem N5 {ns:List Int} {k a:Int}:a∈putN ns k↔a∈ns\/a=k:=by
 unfold putN
 split
 ·rename_i h
  exact ⟨.inl,fun q=>q.elim id fun z=>z▸h⟩
 ·rw [List.mem_append,List.mem_singleton]
theorem E4 {ns:List Int} {k:Int} (h:ns.Nodup):(putN ns k).Nodup:=by
 unfold putN
 split
 ·exact h
 ·rename_i z
  exact List.nodup_append.mpr ⟨h,by simp,fun a ha b hb=>by
   rw [List.mem_singleton] at hb
   intro e
   subst e
   subst hb
   exact z ha⟩
theorem xV:∀ (ks ns:List Int),ns.Nodup->(ks.foldl putN ns).Nodup /\ ∀ a,a∈ks.foldl putN ns↔a∈ns\/a∈ks
 | [],ns,h=>⟨h,fun a=>by simp⟩
 | k::ks,ns,h=>by
  obtain ⟨h1,h2⟩:=xV ks (putN ns k) (E4 h)
  refine ⟨h1,fun a=>?_⟩
  rw [List.foldl_cons,h2,N5,List.mem_cons,or_assoc]
theorem N6 (ns:List Int):(zK ns).Nodup /\ ∀ a,a∈zK ns↔a∈ns:=by
 obtain ⟨h1,h2⟩:=xV ns [] (by simp)
 exact ⟨h1,fun a=>by unfold zK; rw [h2]; simp⟩
noncomputable def both (r l:List Int):List Int:=sortI (zK (r++l))
theorem SY (r l:List Int):(both r l).Pairwise (·<·):=by
 have h1:=j2 (zK (r++l))
 have h2:(both r l).Nodup:=(sortI_perm (zK (r++l))).nodup_iff.mpr (N6 _).1
 exact (List.Pairwise.and h1 h2).imp fun q=>by omega
theorem N7 {r l:List Int} {a:Int}:a∈both r l↔a∈r\/a∈l:=by
 unfold both
 rw [(sortI_perm _).mem_iff,(N6 _).2,List.mem_append]
theorem S3 {r l:List Int} (h:r.length+l.length<64):fF [.tup (r.map D.int++l.map D.int)]=some (.lst ((both r l).map D.int)):=by
 unfold fF
 rw [<- List.map_append]
 dsimp only
 rw [fG]
 show (if (r++l).length<64 then _ else _)=_
 rw [if_pos (by rw [List.length_append]; exact h)]
 rfl
theorem rc3 {R:dP} {a b c:EF} {ρ:bN} {x y z:D} {o:Option Str} (ha:a ρ=some x) (hb:b ρ=some y) (hc:c ρ=some z) (h:aAp (R [x,y,z])=o):rK R (aA a (aA b (aA c aC))) ρ=o:=by
 unfold rK aA aC
 rw [ha,hb,hc]
 exact h
noncomputable def thing (n a:Int):Bool:=decide (0<=a)&&decide (a<n)
theorem qB {n a b:Int} (ha:thing n a=true) (hb:thing n b=true):aJ [.int n,.int a,.int b]=.ok .non:=by
 unfold aJ
 refine runN (ρ:=[Sv.ro (.int n),Sv.ro (.int a),Sv.ro (.int b)]) rfl (BP ?_ rfl)
 refine NY (b:=false) (XT (EX (eK rfl rfl (rN a n)) rfl) (by rw [show (decide (0<=a)&&decide (a<n))=true from ha]; rfl)) (fun _=>?_) (fun z=>by cases z)
 exact XT (EX (eK rfl rfl (rN b n)) rfl) (by rw [show (decide (0<=b)&&decide (b<n))=true from hb]; rfl)
theorem eV {n a:Int}:thing n a=true↔0<=a/\a<n:=by simp [thing]
theorem aEd {ρ:aT} {x:List (List Int)} {a b:Int} {r:aT} (hr:ρ=Sv.ro (aY x)::Sv.ro (.int a)::Sv.ro (.int b)::r) (ha:thing x.length a=true) (hb:thing x.length b=true) :
  zJ (rK LL.aJ (aA (bA bL (aA (aB 0) aC)) (aA (aB 1) (aA (aB 2) aC)))) (sX (aM (aF LL.aJ (aA (bA bL (aA (aB 0) aC)) (aA (aB 1) (aA (aB 2) aC)))))) ρ=.nx ρ:=by
 subst hr
 refine aEa (rc3 (fA rfl lI) rfl rfl (by rw [qB ha hb]; rfl)) ?_
 unfold sX aM
 rw [mW (fA rfl lI) rfl rfl (qB ha hb)]
 rfl
noncomputable def zZ (b:Int) (lower:List Int) (p:List Int×Nat):List Int:=if decide ((p.2:Int)=b)||p.1.contains b then both p.1 lower else p.1
noncomputable def put (x:List (List Int)) (a b:Int):List (List Int):=x.zipIdx.map (zZ b (row x a++[a]))
noncomputable def kA (x:List (List Int)) (a b:Int):Bool:=decide (a=b)||(row x a).contains b
theorem J6 {x:List (List Int)} {a b:Int} {r:aT} (ha:thing x.length a=true):(mC (tV (aE jI (aB 1) (aB 2))) (tV (aE (jX false) (aB 2) (aE bZ (aB 0) (aB 1))))) (bQ (Sv.ro (aY x)::Sv.ro (.int a)::Sv.ro (.int b)::r))=some (kA x a b):=by
 obtain ⟨h0,h1⟩:=eV.mp ha
 refine NY (b:=decide (a=b)) (EX (cC (x:=.int a) (y:=.int b) rfl rfl eU) rfl) (fun z=>?_) (fun z=>by unfold kA; rw [z]; rfl)
 unfold kA
 rw [z,Bool.false_or]
 exact EX (cC (x:=.int b) (y:=tupI (row x a)) rfl (cC (x:=aY x) (y:=.int a) rfl rfl (mY h0 h1)) uA) rfl
theorem X0 {x:List (List Int)} {a b:Int} (hn:x.length<=1000) (hr:∀ r∈x,r.length<=9) (ha:thing x.length a=true) (hb:thing x.length b=true) (h:kA x a b=false):bW [aY x,.int a,.int b]=.ok (aY (put x a b)):=by
 obtain ⟨h0,h1⟩:=eV.mp ha
 have hw:(row x a).length<=9:=by
  unfold row
  rw [List.getElem?_eq_getElem (by omega)]
  exact hr _ (List.getElem_mem _)
 unfold bW
 refine gR rfl (cN _ (aEd rfl ha hb) (cN _ (BP ((J6 ha).trans (congrArg some h)) rfl) (cN _ (iS (tupI (row x a++[a])) (cC (x:=tupI (row x a)) (y:=.tup [.int a]) (cC (x:=aY x) (y:=.int a) rfl rfl (mY h0 h1)) (aEb rfl) ?_) rfl) (cN [Sv.ro (aY x),Sv.ro (.int a),Sv.ro (.int b),Sv.ro (tupI (row x a++[a])),Sv.ow (.lst []),Sv.no,Sv.no,Sv.no] rfl ?_))))
 ·unfold tupI
  rw [B3 (by simp; omega),List.map_append]
  rfl
 ·have L:Nx (cR (iW (aA (aB 0) aC)) (nY 5 6)
    (aH (aN 7 (VY (aE jI (aB 5) (aB 2)) (aE (jX false) (aB 2) (aB 6))))
    (sX (iR 4 eF (aM (SA (tV (aB 7)) (bA bH (aA (bA fF (aA (aE bM (aB 6) (aB 3)) aC)) aC)) (aB 6)))))) [Sv.ro (aY x),Sv.ro (.int a),Sv.ro (.int b),Sv.ro (tupI (row x a++[a])),Sv.ow (.lst []),Sv.no,Sv.no,Sv.no])
    fun ρ=>∃ v5 v6 v7,ρ=[Sv.ro (aY x),Sv.ro (.int a),Sv.ro (.int b),Sv.ro (tupI (row x a++[a])),Sv.ow (.lst ((put x a b).map tupI)),v5,v6,v7]:=by
   refine t7 ((x.map tupI).zipIdx.map fun p=>D.tup [.int (p.2:Int),p.1]) (fun i ρ=>∃ v5 v6 v7,ρ=[Sv.ro (aY x),Sv.ro (.int a),Sv.ro (.int b),Sv.ro (tupI (row x a++[a])),Sv.ow (.lst (((put x a b).take i).map tupI)),v5,v6,v7]) rfl ⟨_,_,_,rfl⟩ ?_ ?_
   ·rintro i d _ hd ⟨v5,v6,v7,rfl⟩
    rw [zipIdx_map,List.map_map,List.getElem?_map] at hd
    obtain ⟨⟨r,j⟩,hz,rfl⟩:=Option.map_eq_some_iff.mp hd
    have hj:j=i/\x[i]? = some r:=by
     rw [List.getElem?_zipIdx] at hz
     obtain ⟨r',e1,e2⟩:=Option.map_eq_some_iff.mp hz
     cases e2
     exact ⟨by omega,e1⟩
    obtain ⟨rfl,hx⟩:=hj
    have rl:r.length<=9:=hr r (List.mem_of_getElem? hx)
    refine ⟨[Sv.ro (aY x),Sv.ro (.int a),Sv.ro (.int b),Sv.ro (tupI (row x a++[a])),Sv.ow (.lst (((put x a b).take j).map tupI)),Sv.ro (.int j),Sv.ro (tupI r),v7],rfl,?_⟩
    have hpj:(put x a b)[j]? = some (zZ b (row x a++[a]) (r,j)):=by
     unfold put
     rw [List.getElem?_map,hz]
     rfl
    have tk:(put x a b).take (j+1)=(put x a b).take j++[zZ b (row x a++[a]) (r,j)]:=by
     rw [List.take_add_one,hpj]
     rfl
    have e7:(VY (aE jI (aB 5) (aB 2)) (aE (jX false) (aB 2) (aB 6))) (jY [Sv.ro (aY x),Sv.ro (.int a),Sv.ro (.int b),Sv.ro (tupI (row x a++[a])),Sv.ow (.lst (((put x a b).take j).map tupI)),Sv.ro (.int j),Sv.ro (tupI r),v7])=some (.bl (decide ((j:Int)=b)||r.contains b)):=by
     unfold VY
     rw [cC (x:=.int j) (y:=.int b) rfl rfl eU,cC (x:=.int b) (y:=tupI r) rfl rfl uA]
     simp only [Option.bind_some,kM]
     cases decide ((j:Int)=b)<;>rfl
    refine ⟨_,cN _ (iS _ e7 rfl) ?_,Sv.ro (.int j),Sv.ro (tupI r),Sv.ro (.bl (decide ((j:Int)=b)||r.contains b)),rfl⟩
    rw [tk]
    unfold sX
    have ev:(aM (SA (tV (aB 7)) (bA bH (aA (bA fF (aA (aE bM (aB 6) (aB 3)) aC)) aC)) (aB 6))) [Sv.ro (aY x),Sv.ro (.int a),Sv.ro (.int b),Sv.ro (tupI (row x a++[a])),Sv.ow (.lst (((put x a b).take j).map tupI)),Sv.ro (.int j),Sv.ro (tupI r),Sv.ro (.bl (decide ((j:Int)=b)||r.contains b))]
      = some ([Sv.ro (aY x),Sv.ro (.int a),Sv.ro (.int b),Sv.ro (tupI (row x a++[a])),Sv.ow (.lst (((put x a b).take j).map tupI)),Sv.ro (.int j),Sv.ro (tupI r),Sv.ro (.bl (decide ((j:Int)=b)||r.contains b))],tupI (zZ b (row x a++[a]) (r,j))):=by
     unfold aM SA
     rw [EX (b:=decide ((j:Int)=b)||r.contains b) rfl rfl]
     unfold zZ
     cases decide ((j:Int)=b)||r.contains b with
     | false=>rfl
     | true =>
      simp only [Option.bind_some,if_true]
      rw [fA (x:=.lst ((both r (row x a++[a])).map D.int)) (fA (x:=.tup (r.map D.int++(row x a++[a]).map D.int)) (cC (x:=tupI r) (y:=tupI (row x a++[a])) rfl rfl (B3 (by simp; omega))) (S3 (by simp; omega))) rfl]
      rfl
    have pl:((put x a b).take j).length<1000+1:=by
     rw [List.length_take]
     have:(put x a b).length=x.length:=by simp [put]
     omega
    have ex:=dR.SX (i:=4) (m:=eF) rfl ev rfl (lG (d:=tupI (zZ b (row x a++[a]) (r,j))) (ds:=((put x a b).take j).map tupI) (by rw [List.length_map]; omega))
    refine (congrArg (fun o:Option (aT×D)=>match o with | some p=>Out.nx p.1 | none=>Out.no) ex).trans ?_
    rw [List.map_append]
    rfl
   ·rintro ρ' ⟨v5,v6,v7,rfl⟩
    refine ⟨v5,v6,v7,?_⟩
    rw [List.take_of_length_le (by simp [put])]
  obtain ⟨ρ',e,v5,v6,v7,rfl⟩:=L
  refine cN _ (by unfold SE; rw [e]) (gU ?_)
  exact fA rfl rfl
noncomputable def mZ:dP:=aX 9 2
  (aH (fR 2 (dD aC))
  (aH (cR (aV (aA (aB 0) aC)) (pU 3)
   (aH (fR 4 (dD aC))
   (aH (fR 5 (dD (aA (aB 3) aC)))
   (aH (EM EL (tV (aE EC (bA bL (aA (aB 5) aC)) (eC (.int 0))))
    (aH (tM 6 (NJ 5))
    (cR (bE (aB 1)) (nY 7 8)
     (fD (lW (tV (aE jI (aB 8) (aB 6))) (tV (aE (jX true) (aB 7) (aB 4))))
      (aH (sX (iR 4 eF (aM (aB 7))))
      (sX (iR 5 eF (aM (aB 7)))))
      cM))))
   (aH (fD (tV (aE (jX false) (aB 3) (aB 4)))
    (aQ (eC .non))
    cM)
   (sX (iR 2 eF (mE (bA bH (aA (bA fC (aA (aB 4) aC)) aC))))))))))
  (aQ (bA bH (aA (aB 2) aC)))))
noncomputable def rO:dP:=aX 2 1
  (aH (aN 1 (eC (.str "NoThing Looped NoOrder NoNumber TooGreat NoGoing NoRow NoFilling NotLoose NotForest")))
  (aH (aN 1 (aE bM (aB 1) (eC (.str " NoShape NoName NoLine"))))
  (aQ (aE bM (aE bM (dE (aA (eC (.str "refused")) aC)) (bA bH (aA (bC 1 [0] (bE (aE splitM (aB 1) (eC (.str " ")))) (g1 0) bF (aE jI (aB 0) (aB 1))) aC))) (dE (aA (eC (.bl true)) aC))))))
end LL
end
section
namespace LL
open PySem L3 L4 dR R8
theorem HY {y:List (List Int)} (up:∀ d:Int,0<=d->d<(y.length:Int)->(row y d).Pairwise (·<·)) (rng:∀ c d:Int,0<=d->d<(y.length:Int)->c∈row y d->0<=c/\c<(y.length:Int))
  (tr:∀ c v d:Int,0<=d->d<(y.length:Int)->v∈row y d->c∈row y v->c∈row y d) (R7:∀ d:Int,0<=d->d<(y.length:Int)->d∉row y d):Ord.Rows y:=by
 have CA:∀ (b:Nat) (r:List Int),y[b]? = some r->row y (b:Int)=r/\(b:Int)<(y.length:Int):=fun b r h=>by
  unfold row
  rw [Int.toNat_natCast,h]
  have:=(List.getElem?_eq_some_iff.1 h).1
  exact ⟨rfl,by omega⟩
 refine ⟨fun b r h=>?_,fun b r h a ha=>?_,fun b a r v h ha hv c hc=>?_,fun b r h=>?_⟩
 ·obtain ⟨e,l⟩:=CA b r h
  rw [<- e]
  exact up b (by omega) l
 ·obtain ⟨e,l⟩:=CA b r h
  rw [<- e] at ha
  exact rng a b (by omega) l ha
 ·obtain ⟨e,l⟩:=CA b r h
  obtain ⟨e2,l2⟩:=CA a v hv
  rw [<- e] at ha ⊢
  rw [<- e2] at hc
  exact tr c a b (by omega) l ha hc
 ·obtain ⟨e,l⟩:=CA b r h
  rw [<- e]
  exact R7 b (by omega) l
theorem iN (x:List (List Int)) (a b:Int):(put x a b).length=x.length:=by simp [put]
theorem HZ {x:List (List Int)} {a b d:Int} (h0:0<=d) (h1:d<(x.length:Int)):row (put x a b) d=zZ b (row x a++[a]) (row x d,d.toNat):=by
 have hk:d.toNat<x.length:=by omega
 unfold row put
 rw [List.getElem?_map,List.getElem?_zipIdx,List.getElem?_eq_getElem hk]
 simp [row]
theorem iX {x:List (List Int)} {a b c d:Int} (h0:0<=d) (h1:d<(x.length:Int)):c∈row (put x a b) d↔c∈row x d\/((d=b\/b∈row x d)/\(c=a\/c∈row x a)):=by
 rw [HZ h0 h1]
 unfold zZ
 have e:((d.toNat:Nat):Int)=d:=by omega
 rw [e]
 by_cases h:(decide (d=b)||(row x d).contains b)=true
 ·rw [if_pos h,N7,List.mem_append,List.mem_singleton]
  have h':d=b\/b∈row x d:=by simpa using h
  constructor
  ·rintro (z | z | z)
   ·exact .inl z
   ·exact .inr ⟨h',.inr z⟩
   ·exact .inr ⟨h',.inl z⟩
  ·rintro (z | ⟨_,z | z⟩)
   ·exact .inl z
   ·exact .inr (.inr z)
   ·exact .inr (.inl z)
 ·rw [if_neg h]
  have h':¬ (d=b\/b∈row x d):=by simpa using h
  exact ⟨.inl,fun z=>z.elim id fun q=>absurd q.1 h'⟩
theorem N8 {x:List (List Int)} {a b:Int} (h:kA x a b=false):a≠b/\b∉row x a:=by
 unfold kA at h
 simpa using h
theorem N9 {x:List (List Int)} (hx:Ord.Rows x) {a b:Int} (ha:thing x.length a=true) (hb:thing x.length b=true) (h:kA x a b=false):Ord.Rows (put x a b):=by
 obtain ⟨a0,a1⟩:=eV.mp ha
 obtain ⟨b0,b1⟩:=eV.mp hb
 obtain ⟨nab,nba⟩:=N8 h
 refine HY (fun d d0 d1=>?_) (fun c d d0 d1 hc=>?_) (fun c v d d0 d1 hv hc=>?_) fun d d0 d1 hd=>?_
 ·rw [iN] at d1
  rw [HZ d0 d1]
  unfold zZ
  split
  ·exact SY _ _
  ·exact hx.up _ _ (gM d0 d1)
 ·rw [iN] at d1 ⊢
  rcases (iX d0 d1).1 hc with z | ⟨_,z | z⟩
  ·exact gZ hx d0 d1 z
  ·omega
  ·exact gZ hx a0 a1 z
 ·rw [iN] at d1
  have hv':=(iX d0 d1).1 hv
  have vr:0<=v/\v<(x.length:Int):=by
   rcases hv' with z | ⟨_,z | z⟩
   ·exact gZ hx d0 d1 z
   ·omega
   ·exact gZ hx a0 a1 z
  refine (iX d0 d1).2 ?_
  rcases (iX vr.1 vr.2).1 hc with z | ⟨u,l⟩
  ·rcases hv' with y | ⟨u,l⟩
   ·exact .inl (zX hx d0 d1 y z)
   ·refine .inr ⟨u,.inr ?_⟩
    rcases l with e | l
    ·rw [e] at z
     exact z
    ·exact zX hx a0 a1 l z
  ·refine .inr ⟨?_,l⟩
   rcases hv' with y | ⟨u2,_⟩
   ·rcases u with e | u
    ·rw [e] at y
     exact .inr y
    ·exact .inr (zX hx d0 d1 y u)
   ·exact u2
 ·rw [iN] at d1
  rcases (iX d0 d1).1 hd with z | ⟨u,l⟩
  ·exact HW hx d0 d1 z
  ·rcases u with e | u
   ·rcases l with e2 | l
    ·exact nab (e2.symm.trans e)
    ·rw [e] at l
     exact nba l
   ·rcases l with e2 | l
    ·rw [e2] at u
     exact nba u
    ·exact nba (zX hx a0 a1 l u)
inductive TC (P:List (Int×Int)):Int->Int->Prop where
 | one {a b:Int} (h:(a,b)∈P):TC P a b
 | more {a c b:Int} (h:(a,c)∈P) (t:TC P c b):TC P a b
theorem TC.trans {P:List (Int×Int)} {a b c:Int} (h:TC P a b) (g:TC P b c):TC P a c:=by
 induction h with
 | one h=>exact .more h g
 | more h _ ih=>exact .more h (ih g)
theorem TC.mono {P Q:List (Int×Int)} (s:∀ p∈P,p∈Q) {a b:Int} (h:TC P a b):TC Q a b:=by
 induction h with
 | one h=>exact .one (s _ h)
 | more h _ ih=>exact .more (s _ h) ih
noncomputable def InR (n:Nat) (P:List (Int×Int)):Prop:=∀ p∈P,(0<=p.1/\p.1<(n:Int))/\0<=p.2/\p.2<(n:Int)
structure Cg (P:List (Int×Int)) (b:Int) (u f:List Int):Prop where
 nd:u.Nodup
 sub:∀ a∈u,TC P a b
 fr:∀ a∈f,a=b\/a∈u
 cl:∀ c,(c=b\/c∈u)->c∉f -> ∀ a,(a,c)∈P->a∈u
theorem Cg.all {P:List (Int×Int)} {b:Int} {u:List Int} (h:Cg P b u []) {a:Int} (t:TC P a b):a∈u:=by
 have key:∀ {a c:Int},TC P a c->c=b->a∈u:=fun {a c} t=>by
  induction t with
  | one q=>intro e; subst e; exact h.cl _ (.inl rfl) (by simp) _ q
  | more q _ ih=>intro e; exact h.cl _ (.inr (ih e)) (by simp) _ q
 exact key t rfl
end LL
end
section
namespace LL
open PySem L3 L4
noncomputable def OA:dP:=aX 2 2
  (aQ (bA bH (aA (bA NM (aA (aE bM (aB 0) (dE (aA (aB 1) aC))) aC)) aC)))
noncomputable def uH:dP:=aX 3 2
  (aH (aN 2 (bC 1 [1] (aV (aA (bA bL (aA (aB 0) aC)) aC)) (g1 0) (tV (aE (jX true) (aB 0) (aB 1))) (aB 0)))
  (aQ (bC 1 [1,0] (bE (aB 2)) (g1 0) (tV (bA allM (aA (bC 1 [1] (bE (aE bZ (aB 2) (aB 0))) (g1 0) bF (aE (jX false) (aB 0) (aB 1))) aC))) (aB 0))))
noncomputable def OB (x:List (List Int)) (a:List Int):List Int:=((cQ 0 x.length).filter fun t=>!a.contains t).filter fun t=>(row x t).all fun l=>a.contains l
noncomputable def V5 (a:List Int) (t:Int):List Int:=sortI (a++[t])
end LL
end
section
namespace L7
open PySem L3 L4 LL
section
variable (rd:List Int->List (List Int))
noncomputable def Wf:Nat->List Int->Int
 | 0,_=>1
 | m+1,a=>((rd a).map (Wf m)).sum
end
end L7
end
section
namespace K24
noncomputable def fact:Nat->Int
 | 0=>1
 | k+1=>fact k*(k+1)
noncomputable def ff (x:Int):Nat->Int
 | 0=>1
 | k+1=>ff x k*(x - k)
--CUT
noncomputable def C (x:Int) (m:Nat):Int:=ff x m / fact m
noncomputable def diffs:List Int->List Int
 | a::b::l=>(b - a)::diffs (b::l)
 | _=>[]
theorem oD:∀ l:List Int,(diffs l).length=l.length - 1
 | []=>rfl
 | [_]=>rfl
 | a::b::l=>by rw [diffs,List.length_cons,oD (b::l)]; simp
noncomputable def fd (l:List Int):List Int:=match l with
 | []=>[]
 | a::r=>a::fd (diffs (a::r))
termination_by l.length
decreasing_by rw [oD]; simp
noncomputable def vals (f:Int->Int):Nat->Int->List Int
 | 0,_=>[]
 | n+1,x=>f x::vals f n (x+1)
noncomputable def DV (n:Nat) (d:Int):List Int->Int->Int
 | [],_=>0
 | w::l,k=>w*C (k+n - 1 - d) n+DV n (d+1) l k
end K24
end
section
namespace LL
open PySem L3 L4
noncomputable def IA:dP:=aX 2 2
  (aQ (bC 2 [] (NP (aA (aB 0) (aA (aB 1) aC))) (g2 0 1) bF (aE bM (aB 0) (aB 1))))
noncomputable def nA:dP:=aX 1 1
  (aQ (aE bM (dD (aA (eC (.int 0)) aC)) (NH (aB 0) NG (oE (sM (eC (.int 1)))))))
noncomputable def mG:Nat->FnM
 | 0=>fun _ _=>.no
 | n+1=>runM 8 4
  ((aH (aN 4 (dE (aA (aB 1) (aA (aB 2) aC))))
  (fD (tV (aE (XM true) (aB 4) (aB 3)))
   (aH (fR 5 (aE repLM (dD (aA (eC (.int 0)) aC)) (bA V1 (aA (bA bL (aA (aB 0) aC)) (aA (eC (.int 1)) aC)))))
   (aH (fD (tV (aE jI (bA bL (aA (aB 1) aC)) (bA bL (aA (aB 0) aC))))
    (aEX 5 (aM (eC (.int 1))) (eC (.int 0)))
    cM)
   (aH (aEZ 5 (cR (bE (aF LL.uH (aA (aB 0) (aA (aB 1) aC)))) (pU 6)
    (aH (XO 7 (mG n) (aA (aB 0) (aA (aF LL.OA (aA (aB 1) (aA (aB 6) aC))) (aA (aB 6) aC))) 3)
    (aN 5 (aF LL.IA (aA (aB 5) (aA (SA (tV (aE EC (aB 2) (aB 6))) (aF LL.nA (aA (aB 7) aC)) (aB 7)) aC)))))))
   (NO 3 (aM (aB 5)) (aB 4)))))
   cM)))
  (aB 4)
noncomputable def CB:dP:=aX 2 1
  (aH (aAu 1)
  (aH (aE8 (LL.mG 11) (aA (aB 0) (aA (dE aC) (aA (eC (.int 0)) aC))) 1)
  (aQ (aB 1))))
noncomputable def dJ:dP:=aX 1 1
  (aQ (bA bH (aA (aE XJ (aF LL.CB (aA (aB 0) aC)) (dE (aA (dE aC) (aA (eC (.int 0)) aC)))) aC)))
noncomputable def OC:dP:=aX 4 2
  (aH (aN 2 (eC (.int 1)))
  (aH (cR (aV (aA (aB 1) aC)) (pU 3)
   (aN 2 (aE kH (aE mulM (aB 2) (aE e9 (aB 0) (aB 3))) (aE bM (aB 3) (eC (.int 1))))))
  (aQ (aB 2))))
noncomputable def hJ:dP:=aX 3 3
  (aQ (bA NF (aA (bC 2 [1,2] (iW (aA (aB 0) aC)) (g2 0 1) bF (aE mulM (aB 1) (aF LL.OC (aA (aE e9 (aE e9 (aE bM (aB 3) (aB 2)) (eC (.int 1))) (aB 0)) (aA (aB 2) aC))))) aC)))
noncomputable def E5:dP:=aX 2 2
  (aQ (aF LL.hJ (aA (aF LL.dJ (aA (aB 0) aC)) (aA (bA bL (aA (aB 0) aC)) (aA (aB 1) aC)))))
noncomputable def wQ:dP:=aX 2 2
  (aQ (bC 2 [1] (NP (aA (aE bM (aB 0) (dD (aA (eC (.int 0)) aC))) (aA (aE bM (dD (aA (eC (.int 0)) aC)) (aB 0)) aC))) (g2 0 1) bF (aE bM (aE mulM (aB 2) (aB 0)) (aB 1))))
noncomputable def nB:dP:=aX 5 3
  (aH (aN 3 (dD (aA (aB 0) aC)))
  (aH (cR (aV (aA (aB 2) aC)) (pU 4)
   (aN 3 (aF LL.wQ (aA (aB 3) (aA (aE e9 (aB 1) (aB 4)) aC)))))
  (aQ (aB 3))))
noncomputable def AA:dP:=aX 5 1
  (aH (aN 1 (bA bL (aA (aB 0) aC)))
  (aH (aN 2 (aE repLM (dD (aA (eC (.int 0)) aC)) (aE bM (aB 1) (eC (.int 1)))))
  (aH (cR (iW (aA (aF LL.dJ (aA (aB 0) aC)) aC)) (nY 3 4)
   (aN 2 (aF LL.IA (aA (aB 2) (aA (aF LL.nB (aA (aB 4) (aA (aE e9 (aE e9 (aB 1) (eC (.int 1))) (aB 3)) (aA (aB 1) aC)))) aC)))))
  (aQ (bA bH (aA (aB 2) aC))))))
noncomputable def lX:dP:=aX 3 1
  (aH (fR 1 (dD aC))
  (aH (aN 2 (aB 0))
  (aH (EM EL (tV (aB 2))
   (aH (sX (iR 1 eF (aM (aE bZ (aB 2) (eC (.int 0))))))
   (aN 2 (bC 2 [] (NP (aA (aB 2) (aA (NH (aB 2) (oE (eC (.int 1))) NG) aC))) (g2 0 1) bF (aE e9 (aB 1) (aB 0))))))
  (aQ (bA bH (aA (aB 1) aC))))))
noncomputable def oF:dP:=aX 3 1
  (aH (aN 1 (bA bL (aA (aB 0) aC)))
  (aH (aN 2 (aF LL.dJ (aA (aB 0) aC)))
  (aQ (aF LL.lX (aA (bC 1 [2,1] (aV (aA (aE bM (aB 1) (eC (.int 1))) aC)) (g1 0) bF (aF LL.hJ (aA (aB 1) (aA (aB 2) (aA (aB 0) aC))))) aC)))))
noncomputable def nC:dP:=aX 5 2
  (aH (aN 2 (eC (.int 1)))
  (aH (aN 3 (eC (.int 1)))
  (aH (cR (aV (aA (aB 1) aC)) (pU 4)
   (aH (aN 2 (aE mulM (aB 2) (aE e9 (aB 0) (aB 4))))
   (aN 3 (aE mulM (aB 3) (aE bM (aB 4) (eC (.int 1)))))))
  (aQ (aE kH (aB 2) (aB 3))))))
noncomputable def qC:dP:=aX 2 2
  (aH (fD (mC (fE (tV (iI "tuple" (aB 0)))) (tV (aE R5 (bA bL (aA (aB 0) aC)) (aB 1))))
   (aQ (eC (.bl false)))
   cM)
  (aQ (bA allM (aA (bC 1 [] (bE (aB 0)) (g1 0) bF (fZ (iI "int" (aB 0)) (sL (iI "bool" (aB 0))))) aC))))
noncomputable def J7:dP:=aX 5 3
  (aH (aN 3 (aF LL.cK (aA (aF LL.dB (aA (aB 0) (aA (aB 1) aC))) (aA (eC (.int 3)) (aA (aB 2) aC)))))
  (aH (fD (tV (aE jI (aE cJ (aE bZ (aB 3) (eC (.int 0))) (eC (.int 3))) (eC (.int 0))))
   (aQ (aE e9 (aE cJ (aE bZ (aB 3) (eC (.int 1))) (eC (.int 25))) (eC (.int 12))))
   cM)
  (aH (aN 4 (aF LL.J5 (aA (aF LL.dB (aA (aB 0) (aA (aE bM (aB 1) (eC (.int 1))) aC))) (aA (aE bZ (dD (aA (aE BS (eC (.int 10)) (eC (.int 4))) (aA (aE BS (eC (.int 10)) (eC (.int 20))) (aA (aE BS (eC (.int 10)) (eC (.int 59))) aC)))) (aE cJ (aE bZ (aB 3) (eC (.int 1))) (eC (.int 3)))) (aA (aE bM (aB 2) (eC (.int 70001))) aC)))))
  (aQ (aE mulM (aB 4) (aE e9 (eC (.int 1)) (aE mulM (eC (.int 2)) (aE cJ (aE bZ (aB 3) (eC (.int 2))) (eC (.int 2))))))))))
theorem OD {ks:List xO} {k k':xO} {v:D}:∀ {ks:List xO} {ds:List D},ks.length=ds.length->gY (kK ks ds k v).1 (kK ks ds k v).2 k' = if k' = k then some v else gY ks ds k':=by
 intro ks ds hl
 unfold kK
 split
 ·rename_i hc
  have go:∀ (ks:List xO) (ds:List D),ks.length=ds.length->gY ks ((ks.zip ds).map fun p=>if p.1=k then v else p.2) k' = if k' = k then (gY ks ds k').map (fun _=>v) else gY ks ds k':=by
   intro ks
   induction ks with
   | nil=>intro ds _; simp [gY]
   | cons q ks ih =>
    intro ds hl
    cases ds with
    | nil=>simp at hl
    | cons d ds =>
     have:=ih ds (by simpa using hl)
     unfold gY at this ⊢
     by_cases h1:q=k'
     ·subst h1
      by_cases h2:q=k
      ·simp [h2]
      ·simp [h2]
     ·simpa [h1] using this
  have hin:k∈ks:=by
   rw [List.any_eq_true] at hc
   obtain ⟨q,hq,e⟩:=hc
   rw [<- of_decide_eq_true e]
   exact hq
  have some_of:∀ (ks:List xO) (ds:List D),ks.length=ds.length->k∈ks -> ∃ d,gY ks ds k=some d:=by
   intro ks
   induction ks with
   | nil=>intro ds _ h; cases h
   | cons q ks ih =>
    intro ds hl h
    cases ds with
    | nil=>simp at hl
    | cons d ds =>
     by_cases h1:q=k
     ·exact ⟨d,by simp [gY,h1]⟩
     ·obtain ⟨d',e⟩:=ih ds (by simpa using hl) ((List.mem_cons.1 h).resolve_left (Ne.symm h1))
      exact ⟨d',by unfold gY at e ⊢; simpa [h1] using e⟩
  rw [go ks ds hl]
  by_cases h:k' = k
  ·subst h
   obtain ⟨d,e⟩:=some_of ks ds hl hin
   rw [e]
   simp
  ·rw [if_neg h,if_neg h]
 ·rename_i hc
  have hn:k∉ks:=fun h=>hc (List.any_eq_true.2 ⟨k,h,by simp⟩)
  unfold gY
  dsimp only
  rw [List.zip_append hl,List.find?_append]
  by_cases h:k' = k
  ·subst h
   have:((ks.zip ds).find? fun p=>decide (p.1=k'))=none:=by
    rw [List.find?_eq_none]
    intro p hp
    have:=List.of_mem_zip hp
    simp only [decide_eq_true_eq]
    exact fun e=>hn (e▸this.1)
   rw [this]
   simp
  ·rw [if_neg h]
   have:([k].zip [v]).find? (fun p=>decide (p.1=k'))=none:=by simp [Ne.symm h]
   rw [this,Option.or_none]
theorem S4 {ks:List xO} {ds:List D} {k:xO} {v:D} (h:ks.length=ds.length):(kK ks ds k v).1.length=(kK ks ds k v).2.length/\(kK ks ds k v).1.length<=ks.length+1:=by
 unfold kK
 split
 ·simp [h]
 ·simp [h]
theorem J8 {ks:List xO} {ds:List D} {k:xO} {v:D} (h:∀ q∈ks,q.isLeft=false) (hk:k.isLeft=false):∀ q∈(kK ks ds k v).1,q.isLeft=false:=by
 unfold kK
 split
 ·exact h
 ·intro q hq
  rcases List.mem_append.1 hq with z | z
  ·exact h q z
  ·rw [List.mem_singleton.1 z]; exact hk
noncomputable def kS (a:List Int) (l:Int):xO:=.inr [.inr (a.map Sum.inl),.inl (.inl l)]
theorem IB:∀ {a b:List Int},a.map (Sum.inl:Int->ES)=b.map Sum.inl->a=b
 | [],[],_=>rfl
 | [],_::_,h=>by simp at h
 | _::_,[],h=>by simp at h
 | x::a,y::b,h=>by
  simp only [List.map_cons,List.cons.injEq,Sum.inl.injEq] at h
  rw [h.1,IB h.2]
theorem X1 {a b:List Int} {l m:Int} (h:kS a l=kS b m):a=b/\l=m:=by
 unfold kS at h
 simp only [Sum.inr.injEq,List.cons.injEq,Sum.inl.injEq,and_true] at h
 exact ⟨IB h.1,h.2⟩
noncomputable def aBE (a b:List Int):List Int:=(a.zip b).map fun p=>p.1+p.2
noncomputable def aEf (l:List Int):List Int:=0::l.dropLast
noncomputable def aEg (n:Nat):List Int:=1::List.replicate (max n 1 - 1) 0
noncomputable def zer (n:Nat):List Int:=List.replicate (max n 1) 0
section
variable (x:List (List Int))
noncomputable def Sh:Nat->List Int->Int->List Int
 | 0,_,_=>aEg x.length
 | m+1,a,l=>(OB x a).foldl (fun acc t=>aBE acc (if t<l then aEf (Sh m (V5 a t) t) else Sh m (V5 a t) t)) (zer x.length)
end
noncomputable def OE (x:List (List Int)) (kd:KD):Prop:=kd.1.length=kd.2.length/\(∀ q∈kd.1,q.isLeft=false) /\ ∀ a l d,gY kd.1 kd.2 (kS a l)=some d->d=aL (Sh x (x.length - a.length) a l)
theorem OE.put {x:List (List Int)} {kd:KD} (h:OE x kd) (a:List Int) (l:Int):OE x (kK kd.1 kd.2 (kS a l) (aL (Sh x (x.length - a.length) a l))):=by
 refine ⟨(S4 h.1).1,J8 h.2.1 rfl,fun b m d e=>?_⟩
 rw [OD (ks:=[]) h.1] at e
 split at e
 ·rename_i hk
  obtain ⟨rfl,rfl⟩:=X1 hk
  exact (Option.some.inj e).symm
 ·exact h.2.2 b m d e
noncomputable def shares (x:List (List Int)):List Int:=Sh x x.length [] 0
end LL
end
section
namespace LL
open PySem L3 L4 K24
theorem aEh {i:Nat} {f:EF} {ρ:aT} {ds:List D} {d:D} (h1:f (jY ρ)=some d) (h2:ρ[i]? = some (.ow (.lst ds))) (hl:ds.length<16777216):sX (iR i eF (aM f)) ρ=.nx (ρ.set i (.ow (.lst (ds++[d])))):=by
 have e:iR i eF (aM f) ρ=some (ρ.set i (.ow (.lst (ds++[d]))),.non):=by
  unfold iR aM
  rw [h2,h1]
  show ((mQ ρ[i]?).bind fun ds=>(eF ds d).map _)=_
  rw [h2]
  show ((eF ds d).map _)=_
  rw [lG hl]
  rfl
 unfold sX
 rw [e]
noncomputable def ev (k:Int):List Int->Int
 | []=>0
 | a::l=>a+k*ev k l
noncomputable def X2 (s:Int) (l:List Int):List Int:=((l++[0]).zip (0::l)).map fun p:Int×Int=>s*p.1+p.2
noncomputable def V6 (s t:Int):Nat->List Int
 | 0=>[s]
 | n+1=>X2 (t - n) (V6 s t n)
noncomputable def V7 (n:Nat):List Int->Nat->List Int->List Int
 | [],_,acc=>acc
 | s::w,d,acc=>V7 n w (d+1) (aBE acc (V6 s ((n:Int) - 1 - d) n))
noncomputable def X3 (x:List (List Int)):List Int:=fd (vals (DV x.length 0 (shares x)) (x.length+1) 0)
section
variable (x:List (List Int))
end
section
variable (x:List (List Int))
end
section
variable {x:List (List Int)}
end
noncomputable abbrev Tab:=List (Nat×Int)
noncomputable def aBF (A:Tab) (h:Nat) (v:Int):Tab:=if A.any (fun q=>decide (q.1=h))=true then A.map fun q=>if q.1=h then (q.1,v) else q else A++[(h,v)]
structure Okt (n:Nat) (A:Tab):Prop where
 nd:(A.map (·.1)).Nodup
 lt:∀ q∈A,q.1<2 ^ n
theorem Okt.put {n:Nat} {A:Tab} (o:Okt n A) {h:Nat} (hh:h<2 ^ n) (v:Int):Okt n (aBF A h v):=by
 unfold aBF
 split
 ·refine ⟨?_,fun q hq=>?_⟩
  ·rw [List.map_map]
   have:(A.map ((fun q:Nat×Int=>q.1)∘fun q=>if q.1=h then (q.1,v) else q))=A.map (·.1):=List.map_congr_left fun q _=>by simp only [Function.comp]; split<;>rfl
   rw [this]
   exact o.nd
  ·obtain ⟨p,hp,rfl⟩:=List.mem_map.1 hq
   split
   ·exact o.lt p hp
   ·exact o.lt p hp
 ·rename_i hc
  refine ⟨?_,fun q hq=>?_⟩
  ·rw [List.map_append,List.nodup_append]
   refine ⟨o.nd,by simp,fun a ha b hb e=>?_⟩
   obtain ⟨q,hq,rfl⟩:=List.mem_map.1 ha
   simp only [List.map_nil,List.map_cons,List.mem_singleton] at hb
   exact hc (List.any_eq_true.2 ⟨q,hq,by simp [e,hb]⟩)
  ·rcases List.mem_append.1 hq with z | z
   ·exact o.lt q z
   ·rw [List.mem_singleton.1 z]; exact hh
section
variable (x:List (List Int))
end
section
variable {x:List (List Int)}
end
section
variable {x:List (List Int)}
end
end LL
end
section
namespace K25
open PySem L3 L4
noncomputable def sN:dP:=aX 3 2
  (aH (aN 2 (bA bL (aA (aB 0) aC)))
  (aQ (bA NF (aA (bC 1 [0,2,1] (aV (aA (aB 2) aC)) (g1 0) bF (aE mulM (aE bZ (aB 1) (aB 0)) (aF LL.nC (aA (aE e9 (aE e9 (aE bM (aB 3) (aB 2)) (eC (.int 1))) (aB 0)) (aA (aB 2) aC))))) aC))))
noncomputable def AB:dP:=aX 2 2
  (aQ (bA NF (aA (bC 1 [0,1] (aV (aA (bA bL (aA (aB 0) aC)) aC)) (g1 0) bF (aE mulM (aE bZ (aB 1) (aB 0)) (aF LL.nC (aA (aB 2) (aA (aB 0) aC))))) aC)))
noncomputable def J9:dP:=aX 4 2
  (aH (aN 2 (eC (.int 0)))
  (aH (cR (JZ (aA (aB 0) aC)) (pU 3)
   (aN 2 (aE bM (aE mulM (aB 2) (aB 1)) (aB 3))))
  (aQ (aB 2))))
noncomputable def wR:dP:=aX 3 1
  (aH (aN 1 (eC (.int 1)))
  (aH (cR (aV (aA (aB 0) aC)) (pU 2)
   (aN 1 (aE mulM (aB 1) (aE bM (aB 2) (eC (.int 1))))))
  (aQ (aB 1))))
noncomputable def wU:dP:=aX 7 5
  (aH (aN 5 (aF LL.E5 (aA (aB 0) (aA (aB 4) aC))))
  (aH (fD (mC (fE (tV (iI "int" (aB 5)))) (tV (iI "bool" (aB 5))))
   (aQ (eC (.bl false)))
   cM)
  (aH (aN 6 (eC (.int 1)))
  (aH (fD (tV (aE EC (bA bL (aA (aB 0) aC)) (eC (.int 0))))
   (aN 6 (aF sN (aA (aB 1) (aA (aB 4) aC))))
   cM)
  (aH (fD (mC (tV (aE R5 (aB 5) (aB 6))) (tV (aE R5 (aF AB (aA (aB 2) (aA (aB 4) aC))) (aB 5))))
   (aQ (eC (.bl false)))
   cM)
  (aQ (aE jI (aF J9 (aA (aB 3) (aA (aB 4) aC))) (aE mulM (aB 5) (aF wR (aA (bA bL (aA (aB 0) aC)) aC))))))))))
noncomputable def mF:dP:=aX 10 1
  (aH (aN 1 (aF LL.dQ (aA (aB 0) (aA (eC (.int 0)) (aA (eC (.int 9)) (aA (eC (.int 100003)) aC))))))
  (aH (aN 2 (bA bL (aA (aB 1) aC)))
  (aH (aN 3 (aF LL.dJ (aA (aB 1) aC)))
  (aH (aN 4 (aF LL.oF (aA (aB 1) aC)))
  (aH (aN 5 (aF LL.AA (aA (aB 1) aC)))
  (aH (fD (mC (fE (tV (aF LL.qC (aA (aB 3) (aA (bA V1 (aA (eC (.int 1)) (aA (aB 2) aC))) aC))))) (mC (fE (tV (aF LL.qC (aA (aB 4) (aA (aE bM (aB 2) (eC (.int 1))) aC))))) (fE (tV (aF LL.qC (aA (aB 5) (aA (aE bM (aB 2) (eC (.int 1))) aC)))))))
   (aQ (eC (.bl false)))
   cM)
  (aH (fD (mC (tV (aE R4 (bA V4 (aA (aB 3) aC)) (eC (.int 0)))) (mC (tV (aE R4 (bA V4 (aA (aB 4) aC)) (eC (.int 0)))) (mC (tV (aE R5 (bA aAo (aA (aB 3) aC)) (aE bZ (aB 4) (sM (eC (.int 1)))))) (tV (aE R5 (aE bZ (aB 5) (sM (eC (.int 1)))) (aE bZ (aB 4) (sM (eC (.int 1)))))))))
   (aQ (eC (.bl false)))
   cM)
  (aH (aN 6 (aE cJ (aE bZ (aF LL.cK (aA (aF LL.dB (aA (aB 0) (aA (eC (.int 2)) aC))) (aA (eC (.int 1)) (aA (eC (.int 200017)) aC)))) (eC (.int 0))) (eC (.int 5))))
  (aH (cR (bE (dE (aA (aB 6) (aA (aF LL.J7 (aA (aB 0) (aA (eC (.int 3)) (aA (eC (.int 300007)) aC)))) aC)))) (pU 7)
   (fD (fE (tV (aF wU (aA (aB 1) (aA (aB 3) (aA (aB 4) (aA (aB 5) (aA (aB 7) aC))))))))
    (aQ (eC (.bl false)))
    cM))
  (aH (fD (tV (aE jI (aB 2) (eC (.int 0))))
   (aQ (aE aAn (aB 4) (dE (aA (eC (.int 1)) aC))))
   cM)
  (aH (fR 8 (dD (aA (eC (.int 0)) aC)))
  (aH (cR (aV (aA (eC (.int 1)) (aA (aE bM (aB 2) (eC (.int 1))) aC))) (pU 9)
   (sX (iR 8 eF (aM (bA NF (aA (bC 1 [3,2,9] (aV (aA (aB 9) aC)) (g1 0) bF (aE mulM (aE bZ (aB 1) (aB 0)) (aF LL.nC (aA (aE e9 (aE e9 (aB 2) (eC (.int 1))) (aB 0)) (aA (aE e9 (aE e9 (aB 3) (eC (.int 1))) (aB 0)) aC))))) aC))))))
  (aQ (aE aE6 (bA BV (aA (aB 4) aC)) (aB 8)))))))))))))))
end K25
end
section
namespace K25
open PySem L3 L4 K24 LL
section
variable {x:List (List Int)}
noncomputable def aBG (x:List (List Int)):List Int:=V7 x.length (shares x) 0 (List.replicate (x.length+1) 0)
end
noncomputable abbrev st (ns:List Int) (x:List (List Int)) (nr:Int) (v7 v8 v9:Sv):aT:=[.ro (.nW ns),.ro (aY x),.ro (.int x.length),.ro (tupI (shares x)),.ro (tupI (X3 x)),.ro (tupI (aBG x)),.ro (.int nr),v7,v8,v9]
end K25
end
section
namespace LL
open PySem L3 L4 K24
section
variable (x:List (List Int))
noncomputable def gls:Nat->List (List Int)
 | 0=>[[]]
 | i+1=>(gls i).flatMap fun w=>(OB x w).map fun t=>w++[t]
end
section
variable {x:List (List Int)}
end
section
variable (x:List (List Int))
end
section
variable {x:List (List Int)}
end
noncomputable def dl:Int->List Int->Int
 | _,[]=>0
 | l,t::w=>(if t<l then 1 else 0)+dl t w
section
variable {x:List (List Int)}
end
section
variable {x y:List (List Int)}
noncomputable def Turned (x y:List (List Int)):Prop:=y.length=x.length /\ ∀ a b:Int,0<=b->b<(x.length:Int)->(a∈row y ((x.length:Int) - 1 - b)↔(x.length:Int) - 1 - a∈row x b)
theorem Turned.symm (h:Turned x y):Turned y x:=by
 refine ⟨h.1.symm,fun a b h0 h1=>?_⟩
 rw [h.1] at h1 ⊢
 have e:=h.2 ((x.length:Int) - 1 - a) ((x.length:Int) - 1 - b) (by omega) (by omega)
 rw [show (x.length:Int) - 1 - ((x.length:Int) - 1 - b)=b by omega,show (x.length:Int) - 1 - ((x.length:Int) - 1 - a)=a by omega] at e
 exact e.symm
noncomputable def E6 (x z:List (List Int)):Prop:=z.length=x.length /\ ∀ a b:Int,0<=a->a<(x.length:Int)->0<=b->b<(x.length:Int)->(a∈row x b↔b∈row z a)
theorem E6.symm (h:E6 x y):E6 y x:=⟨h.1.symm,fun a b h0 h1 h2 h3=>by rw [h.1] at h1 h3; exact (h.2 b a h2 h3 h0 h1).symm⟩
end
section
variable {x:List (List Int)}
end
section
variable {x y z:List (List Int)}
structure Sd (x y z:List (List Int)):Prop where
 len:z.length=x.length+y.length
 lo:∀ t:Int,0<=t->t<(x.length:Int) -> ∀ a,a∈row z t↔a∈row x t
 hi:∀ t:Int,0<=t->t<(y.length:Int) -> ∀ a,a∈row z (t+x.length)↔a - x.length∈row y t
 rx:∀ t:Int,0<=t->t<(x.length:Int) -> ∀ a∈row x t,0<=a/\a<(x.length:Int)
 ry:∀ t:Int,0<=t->t<(y.length:Int) -> ∀ a∈row y t,0<=a/\a<(y.length:Int)
structure Cb (x y:List (List Int)) (a b c:List Int):Prop where
 lo:∀ t:Int,0<=t->t<(x.length:Int)->(t∈c↔t∈a)
 hi:∀ t:Int,0<=t->t<(y.length:Int)->(t+x.length∈c↔t∈b)
end
section
variable {x y z:List (List Int)}
structure Av (x y z:List (List Int)) (s t:Int):Prop where
 len:z.length=x.length+y.length
 lo:∀ a:Int,0<=a->a<(x.length:Int) -> ∀ b,b∈row z (a+s)↔b - s∈row x a
 hi:∀ a:Int,0<=a->a<(y.length:Int) -> ∀ b,b∈row z (a+t)↔(s<=b/\b<s+x.length)\/b - t∈row y a
 rx:∀ a:Int,0<=a->a<(x.length:Int) -> ∀ b∈row x a,0<=b/\b<(x.length:Int)
 ry:∀ a:Int,0<=a->a<(y.length:Int) -> ∀ b∈row y a,0<=b/\b<(y.length:Int)
 st:(s=0/\t=x.length)\/(s=y.length/\t=0)
end
theorem aEk {i:Nat} {f:EF} {ρ:aT} {d:D} (h:f (jY ρ)=some d):fR i f ρ=.nx (ρ.set i (.ow d)):=by
 unfold fR
 rw [h]
section
variable {x:List (List Int)}
end
section
variable {x:List (List Int)}
end
section
variable {x:List (List Int)}
end
end LL
end
section
namespace LL
open PySem L3 L4
noncomputable def KA:dP:=aX 4 1
  (aH (fR 1 (dD aC))
  (aH (cR (aV (aA (bA bL (aA (aB 0) aC)) aC)) (pU 2)
   (cR (aV (aA (aE bM (aB 2) (eC (.int 1))) (aA (bA bL (aA (aB 0) aC)) aC))) (pU 3)
    (fD (lW (tV (aE (jX true) (aB 2) (aE bZ (aB 0) (aB 3)))) (tV (aE (jX true) (aB 3) (aE bZ (aB 0) (aB 2)))))
     (sX (iR 1 eF (aM (dE (aA (aB 2) (aA (aB 3) aC))))))
     cM)))
  (aQ (aB 1))))
end LL
end
section
namespace LL
open PySem L3 L4 K24
noncomputable abbrev PR:=List (List Int)×List Int
noncomputable def aBH (R:List PR) (y:List (List Int)):Bool:=R.any fun r=>decide (r.1=y)
structure aBI (n:Nat) (R:List PR) (i:Nat) (r:PR):Prop where
 rows:Ord.Rows r.1
 len:r.1.length=n
 why:(loose r.1=[]/\r.2=[]) \/ ∃ (a b:Int) (p q:Nat) (u v:PR),loose r.1≠[]/\r.2=[a,b,(p:Int),(q:Int)]/\(0<=a/\a<(n:Int))/\(0<=b/\b<(n:Int))/\N4 r.1 a b=true/\p<i/\q<i/\R[p]? = some u/\u.1=put r.1 a b/\R[q]? = some v/\v.1=put r.1 b a
noncomputable def GoodR (n:Nat) (R:List PR):Prop:=∀ (i:Nat) (r:PR),R[i]? = some r->aBI n R i r
noncomputable def gl (x:List (List Int)):Nat:=(gls x x.length).length
noncomputable abbrev OG:L4.SF:=(aH (tM 5 (mE (aE bZ (aB 4) (sM (eC (.int 1))))))
   (aH (aN 6 (aF LL.KA (aA (aB 5) aC)))
   (fD (tV (aE (XM false) (aB 5) (aB 3)))
    (sX (NJ 4))
    (fD (tV (aE jI (bA bL (aA (aB 6) aC)) (eC (.int 0))))
     (aH (NO 3 (mE (bA bL (aA (aB 2) aC))) (aB 5))
     (sX (iR 2 eF (aM (dE (aA (aB 5) (aA (dE aC) aC)))))))
     (aH (aN 7 (aE bZ (aB 1) (aE cJ (bA NF (aA (bC 1 [] (bE (aB 5)) (g1 0) bF (bA bL (aA (aB 0) aC))) aC)) (bA bL (aA (aB 1) aC)))))
     (aH (XI (aM (aE bZ (aB 6) (aE cJ (aB 7) (bA bL (aA (aB 6) aC))))) (nY 8 9))
     (aH (fD (tV (aE jI (aE cJ (aE kH (aB 7) (eC (.int 7))) (eC (.int 2))) (eC (.int 1))))
      (aE3 8 9 (aA (aB 9) (aA (aB 8) aC)))
      cM)
     (aH (aN 10 (dD (aA (aF LL.HU (aA (aB 5) (aA (aB 8) (aA (aB 9) aC)))) (aA (aF LL.HU (aA (aB 5) (aA (aB 9) (aA (aB 8) aC)))) aC))))
     (aH (rH 11 (bC 1 [3] (bE (aB 10)) (g1 0) (tV (aE (XM true) (aB 0) (aB 1))) (aB 0)))
     (fD (tV (aE EC (bA bL (aA (aB 11) aC)) (eC (.int 0))))
      (sX (iR 4 eF (aM (aE bZ (aB 11) (aE cJ (aE kH (aB 7) (eC (.int 16))) (bA bL (aA (aB 11) aC)))))))
      (aH (NO 3 (mE (bA bL (aA (aB 2) aC))) (aB 5))
      (sX (iR 2 eF (mE (dE (aA (aB 5) (aA (dE (aA (aB 8) (aA (aB 9) (aA (aE XJ (aB 3) (aE bZ (aB 10) (eC (.int 0)))) (aA (aE XJ (aB 3) (aE bZ (aB 10) (eC (.int 1)))) aC))))) aC)))))))))))))))))
noncomputable abbrev OH:TF:=tV (aE EC (bA bL (aA (aB 4) aC)) (eC (.int 0)))
noncomputable def Steps (m:Nat) (ρ ρ':aT):Prop:=∀ f:Nat,zH OH OG (f+m) ρ=zH OH OG f ρ'
theorem Steps.trans {m k:Nat} {a b c:aT} (h1:Steps m a b) (h2:Steps k b c):Steps (m+k) a c:=fun f=>by
 rw [show f+(m+k)=(f+k)+m by omega,h1,h2]
structure Ran (n:Nat) (dr:List Int) (R:List PR) (y:List (List Int)) (m:Nat) (R':List PR):Prop where
 steps:m+4<=6*gl y
 more:∃ S,R' = R++S /\ ∀ r∈S,gl r.1<=gl y
 few:R'.length+1<=R.length+2*gl y
 good:GoodR n R'
 has:aBH R' y=true
 last:aBH R y=false -> ∃ S w,R' = S++[(y,w)]
theorem E7 {a b:EF} {ρ:bN} {p q:Bool} (ha:a ρ=some (.bl p)) (hb:p=true->b ρ=some (.bl q)) (h:p=false->q=false):fZ a b ρ=some (.bl q):=by
 unfold fZ
 rw [ha]
 show (if p=true then b ρ else some (.bl false))=_
 cases p with
 | true=>exact hb rfl
 | false=>rw [h rfl]; rfl
section
variable {x:List (List Int)}
end
end LL
end
section
namespace E8
open PySem L3 L4
noncomputable def cP:dP:=aX 5 2
  (aH (cR (bE (aB 1)) (nY 2 3)
   (zJ (rK LL.aJ (aA (aB 0) (aA (aB 2) (aA (aB 3) aC)))) (sX (aM (aF LL.aJ (aA (aB 0) (aA (aB 2) (aA (aB 3) aC))))))))
  (aH (aN 4 (aE xM (dE (aA (dE aC) aC)) (aB 0)))
  (aH (cR (bE (aB 1)) (nY 2 3)
   (zJ (rK LL.bW (aA (aB 4) (aA (aB 2) (aA (aB 3) aC)))) (aN 4 (aF LL.bW (aA (aB 4) (aA (aB 2) (aA (aB 3) aC)))))))
  (aQ (aB 4)))))
noncomputable def qD:dP:=aX 3 2
  (aE1 (zJ (aAr (eC (.str "told")) (rK cP (aA (aB 0) (aA (aB 1) aC)))) (aQ (dE (aA (eC (.str "told")) (aA (aF cP (aA (aB 0) (aA (aB 1) aC))) aC))))) (fun c=>if c = "NoThing" then some (.tup [.str "refused",.bl true,.bl false,.bl false,.bl false,.bl false,.bl false,.bl false,.bl false,.bl false,.bl false,.bl false,.bl false,.bl false,.bl true]) else if c = "Looped" then some (.tup [.str "refused",.bl false,.bl true,.bl false,.bl false,.bl false,.bl false,.bl false,.bl false,.bl false,.bl false,.bl false,.bl false,.bl false,.bl true]) else none))
noncomputable def CC:dP:=aX 13 3
  (aH (aN 3 (aF LL.cK (aA (aF LL.dB (aA (aB 0) (aA (aB 1) aC))) (aA (eC (.int 24)) (aA (aB 2) aC)))))
  (aH (aN 4 (aE cJ (aE bZ (aB 3) (eC (.int 0))) (eC (.int 10))))
  (aH (fD (lW (tV (aE jI (aE cJ (aE bZ (aB 3) (eC (.int 1))) (eC (.int 4))) (eC (.int 1)))) (tV (aE EC (aB 4) (eC (.int 0)))))
   (fR 5 (bC 1 [4,3] (aV (aA (aE cJ (aE bZ (aB 3) (eC (.int 2))) (eC (.int 9))) aC)) (g1 0) bF (dE (aA (aE cJ (aE bZ (aB 2) (aE bM (eC (.int 3)) (aE mulM (eC (.int 2)) (aB 0)))) (aB 1)) (aA (aE cJ (aE bZ (aB 2) (aE bM (eC (.int 4)) (aE mulM (eC (.int 2)) (aB 0)))) (aB 1)) aC)))))
   (aH (aN 6 (aF LL.cK (aA (aF LL.dB (aA (aB 0) (aA (aE bM (aB 1) (eC (.int 1))) aC))) (aA (aE bM (aB 4) (aE kH (aE mulM (aB 4) (aE e9 (aB 4) (eC (.int 1)))) (eC (.int 2)))) (aA (aE bM (aB 2) (eC (.int 10007))) aC)))))
   (aH (fR 5 (dD aC))
   (aH (aN 7 (aF LL.cK (aA (aF LL.dB (aA (aB 0) (aA (aE bM (aB 1) (eC (.int 2))) aC))) (aA (eC (.int 36)) (aA (aE bM (aB 2) (eC (.int 20011))) aC)))))
   (cR (iW (aA (aF LL.cU (aA (aF LL.gA (aA (aB 6) (aA (aB 4) (aA (aE bM (eC (.int 1)) (aE cJ (aE bZ (aB 3) (eC (.int 2))) (eC (.int 4)))) aC)))) aC)) aC)) (nY 8 9)
    (aH (fD (tV (aE EC (aE cJ (aE bZ (aB 7) (aB 8)) (eC (.int 5))) (eC (.int 0))))
     (sX (ER 5 (aE cJ (aE kH (aE bZ (aB 7) (aB 8)) (eC (.int 5))) (aE bM (bA bL (aA (aB 5) aC)) (eC (.int 1)))) (aB 9)))
     cM)
    (fD (tV (aE jI (aE cJ (aE bZ (aB 7) (aB 8)) (eC (.int 7))) (eC (.int 0))))
     (sX (iR 5 eF (aM (aB 9))))
     cM)))))))
  (aH (fD (lW (tV (aE jI (aE cJ (aE bZ (aB 3) (eC (.int 19))) (eC (.int 6))) (eC (.int 1)))) (tV (aE EC (bA bL (aA (aB 5) aC)) (eC (.int 1)))))
   (aH (tM 10 (iR 5 NI (mE (aE cJ (aE bZ (aB 3) (eC (.int 20))) (bA bL (aA (aB 5) aC))))))
   (rG 5 (aE zF (NH (aE repLM (aB 5) (eC (.int 298))) NG (oE (eC (.int 298)))) (dD (aA (aB 10) aC)))))
   cM)
  (aH (fD (tV (aE jI (aE cJ (aE bZ (aB 3) (eC (.int 21))) (eC (.int 6))) (eC (.int 1))))
   (aH (aN 11 (aE bZ (dD (aA (sM (eC (.int 1))) (aA (aB 4) (aA (aE bM (aB 4) (eC (.int 7))) (aA (aE e9 (sM (aB 4)) (eC (.int 1))) (aA (aE e9 (aE aAq (aE BS (eC (.int 10)) (eC (.int 60))) (eC (.int 10))) (eC (.int 1))) aC)))))) (aE cJ (aE bZ (aB 3) (eC (.int 22))) (eC (.int 5)))))
   (aH (aN 12 (aE bZ (dD (aA (dE (aA (aB 11) (aA (eC (.int 0)) aC))) (aA (dE (aA (eC (.int 0)) (aA (aB 11) aC))) (aA (dE (aA (aB 11) (aA (aB 11) aC))) aC)))) (aE cJ (aE bZ (aB 3) (eC (.int 23))) (eC (.int 3)))))
   (sX (ER 5 (aE cJ (aE bZ (aB 3) (eC (.int 2))) (aE bM (bA bL (aA (aB 5) aC)) (eC (.int 1)))) (aB 12)))))
   cM)
  (aQ (dE (aA (aB 4) (aA (bA bH (aA (aB 5) aC)) aC)))))))))
noncomputable def IC:dP:=aX 5 2
  (aH (cR (bE (aB 1)) (nY 2 3)
   (fD (mC (tV (aE R4 (aB 2) (eC (.int 0)))) (mC (tV (aE geM (aB 2) (aB 0))) (mC (tV (aE R4 (aB 3) (eC (.int 0)))) (tV (aE geM (aB 3) (aB 0))))))
    (aQ (aF LL.rO (aA (eC (.str "NoThing")) aC)))
    cM))
  (aH (aN 4 (aF LL.mZ (aA (aB 0) (aA (aB 1) aC))))
  (aH (fD (tV (aE R6 (aB 4) (eC .non)))
   (aQ (aF LL.rO (aA (eC (.str "Looped")) aC)))
   cM)
  (aQ (dE (aA (eC (.str "told")) (aA (aB 4) aC)))))))
noncomputable def mF:dP:=aX 6 1
  (aH (XI (aM (aF CC (aA (aB 0) (aA (eC (.int 0)) (aA (eC (.int 100003)) aC))))) (nY 1 2))
  (aH (XI (aM (aF CC (aA (aB 0) (aA (eC (.int 3)) (aA (eC (.int 400009)) aC))))) (nY 3 4))
  (aH (aN 5 (aF IC (aA (aB 1) (aA (aB 2) aC))))
  (aH (fD (mC (fE (tV (aF (LL.aZ 6) (aA (aF qD (aA (aB 1) (aA (aB 2) aC))) (aA (aB 5) aC))))) (fE (tV (aF (LL.aZ 6) (aA (aF qD (aA (aB 3) (aA (aB 4) aC))) (aA (aF IC (aA (aB 3) (aA (aB 4) aC))) aC))))))
   (aQ (eC (.bl false)))
   cM)
  (aQ (aF (LL.aZ 6) (aA (aF qD (aA (aB 1) (aA (aB 2) aC))) (aA (aB 5) aC))))))))
end E8
end
section
namespace E8
open PySem L3 L4 LL dR R8
theorem short {x:List (List Int)} (hx:Ord.Rows x) (hn:x.length<=9):∀ r∈x,r.length<=9:=fun r hr=>Nat.le_trans (Ord.Rows.short hx hr) hn
noncomputable def good (n:Nat) (P:List (Int×Int)):Bool:=P.all fun p=>thing n p.1&&thing n p.2
structure Inv (n:Nat) (Q:List (Int×Int)) (x:List (List Int)):Prop where
 len:x.length=n
 rows:Ord.Rows x
 rng:InR n Q
 has:∀ p∈Q,p.1∈row x p.2
 sub:∀ a b:Int,0<=b->b<(n:Int)->a∈row x b->TC Q a b
theorem Inv.put {n:Nat} {Q:List (Int×Int)} {x:List (List Int)} (h:Inv n Q x) {a b:Int} (ha:thing n a=true) (hb:thing n b=true) (hl:kA x a b=false):Inv n (Q++[(a,b)]) (LL.put x a b):=by
 have hn:=h.len
 subst hn
 obtain ⟨a0,a1⟩:=eV.mp ha
 obtain ⟨b0,b1⟩:=eV.mp hb
 have one:TC (Q++[(a,b)]) a b:=.one (by simp)
 have old:∀ {c d:Int},TC Q c d->TC (Q++[(a,b)]) c d:=fun t=>t.mono fun p hp=>List.mem_append_left _ hp
 refine ⟨iN x a b,N9 h.rows ha hb hl,fun p hp=>?_,fun p hp=>?_,fun c d d0 d1 hc=>?_⟩
 ·rcases List.mem_append.1 hp with z | z
  ·exact h.rng p z
  ·rw [List.mem_singleton] at z
   subst z
   exact ⟨⟨a0,a1⟩,b0,b1⟩
 ·rcases List.mem_append.1 hp with z | z
  ·have:=h.rng p z
   exact (iX this.2.1 this.2.2).2 (.inl (h.has p z))
  ·rw [List.mem_singleton] at z
   subst z
   exact (iX b0 b1).2 (.inr ⟨.inl rfl,.inl rfl⟩)
 ·rcases (iX d0 d1).1 hc with z | ⟨u,l⟩
  ·exact old (h.sub c d d0 d1 z)
  ·have t1:TC (Q++[(a,b)]) c b:=by
    rcases l with e | l
    ·rw [e]; exact one
    ·exact (old (h.sub c a a0 a1 l)).trans one
   rcases u with e | u
   ·rw [e]; exact t1
   ·exact t1.trans (old (h.sub b d d0 d1 u))
theorem Inv.loop {n:Nat} {Q:List (Int×Int)} {x:List (List Int)} (h:Inv n Q x) {a b:Int} (ha:thing n a=true) (hl:kA x a b=true):∃ c,TC (Q++[(a,b)]) c c:=by
 have hn:=h.len
 subst hn
 obtain ⟨a0,a1⟩:=eV.mp ha
 have one:TC (Q++[(a,b)]) a b:=.one (by simp)
 unfold kA at hl
 rw [Bool.or_eq_true,decide_eq_true_eq,List.contains_iff_mem] at hl
 rcases hl with e | m
 ·refine ⟨b,?_⟩
  rw [e] at one ⊢
  exact one
 ·exact ⟨b,((h.sub b a a0 a1 m).mono fun p hp=>List.mem_append_left _ hp).trans one⟩
theorem Inv.all {n:Nat} {Q:List (Int×Int)} {x:List (List Int)} (h:Inv n Q x) {a b:Int} (t:TC Q a b):0<=b/\b<(n:Int)/\a∈row x b:=by
 have hn:=h.len
 subst hn
 induction t with
 | one q=>exact ⟨(h.rng _ q).2.1,(h.rng _ q).2.2,h.has _ q⟩
 | more q _ ih=>exact ⟨ih.1,ih.2.1,zX h.rows ih.1 ih.2.1 ih.2.2 (h.has _ q)⟩
theorem Inv.nil (n:Nat):Inv n [] (List.replicate n []):=by
 have r0:∀ d:Int,row (List.replicate n ([]:List Int)) d=[]:=fun d=>by
  unfold row
  rw [List.getElem?_replicate]
  split<;>rfl
 refine ⟨by simp,HY (fun d _ _=>by rw [r0]; exact List.Pairwise.nil) (fun c d _ _ h=>by rw [r0] at h; cases h) (fun c v d _ _ h _=>by rw [r0] at h; cases h) (fun d _ _ h=>by rw [r0] at h; cases h),fun p hp=>(by cases hp),fun p hp=>(by cases hp),fun a b _ _ h=>(by rw [r0] at h; cases h)⟩
theorem X4 {n:Nat} (hn:n<=9):xM (.tup [.tup []]) (.int n)=some (aY (List.replicate n [])):=by
 show (if _/\_ then _ else _)=_
 rw [if_pos ⟨by simp [gX]; omega,by omega⟩]
 unfold aY
 simp [tupI]
theorem uI:∀ Q:List (Int×Int),nX (Q.map pairD)=true
 | []=>rfl
 | p::Q=>by
  show ((pairD p).tJ&&nX (Q.map pairD))=true
  rw [uI Q]
  rfl
end E8
end
section
namespace K06
open PySem L3 L4
noncomputable def fJ:dP:=aX 4 2
  (aH (aN 2 (aE bZ (aB 1) (eC (.int 0))))
  (aH (aN 3 (aE bZ (aB 1) (eC (.int 1))))
  (aQ (sL (bA anyM (aA (bC 1 [2,0] (bE (aE bZ (aB 0) (aB 3))) (g1 0) bF (aE (jX false) (aB 1) (aE bZ (aB 2) (aB 0)))) aC))))))
noncomputable def cZ:dP:=aX 1 1
  (aQ (bA bH (aA (bC 1 [0] (bE (aF LL.eA (aA (aB 0) aC))) (g1 0) (tV (aF fJ (aA (aB 1) (aA (aB 0) aC)))) (aB 0)) aC)))
noncomputable def cP:dP:=aX 5 2
  (aH (cR (bE (aB 1)) (nY 2 3)
   (sX (aM (aF LL.aJ (aA (aB 0) (aA (aB 2) (aA (aB 3) aC)))))))
  (aH (aN 4 (aE xM (dE (aA (dE aC) aC)) (aB 0)))
  (aH (cR (bE (aB 1)) (nY 2 3)
   (aN 4 (aF LL.bW (aA (aB 4) (aA (aB 2) (aA (aB 3) aC))))))
  (aQ (aB 4)))))
noncomputable def eW:dP:=aX 2 1
  (aH (fR 1 (dD (aA (bA jB (aA (bA bL (aA (aB 0) aC)) aC)) aC)))
  (aH (sX (iR 1 BX (aM (bC 2 [] (bE (aF cZ (aA (aB 0) aC))) (g2 0 1) bF (HN (bA jB (aA (aB 0) aC)) (eC (.str "<")) (bA jB (aA (aB 1) aC)))))))
  (aQ (aE joinM (eC (.str " ")) (aB 1)))))
noncomputable def dM:dP:=aX 1 1
  (aQ (fZ (aE jI (bA B0 (aA (aB 0) aC)) (eC (.int 1))) (aE SH (aB 0) (eC (.str "0123456789")))))
noncomputable def eB:dP:=aX 1 1
  (aQ (fZ (aE jI (bA B0 (aA (aB 0) aC)) (eC (.int 3))) (fZ (aF dM (aA (aE tO (aB 0) (eC (.int 0))) aC)) (fZ (aE jI (aE tO (aB 0) (eC (.int 1))) (eC (.str "<"))) (aF dM (aA (aE tO (aB 0) (eC (.int 2))) aC))))))
noncomputable def dS:dP:=aX 4 1
  (aH (aN 1 (aE splitM (aB 0) (eC (.str " "))))
  (aH (aN 2 (NH (aB 1) (oE (eC (.int 1))) NG))
  (aH (fD (mC (fE (tV (aF dM (aA (aE bZ (aB 1) (eC (.int 0))) aC)))) (fE (tV (bA allM (aA (bC 1 [] (bE (aB 2)) (g1 0) bF (aF eB (aA (aB 0) aC))) aC)))))
   (fun _=>.no)
   cM)
  (aH (aN 3 (bA bH (aA (bC 1 [] (bE (aB 2)) (g1 0) bF (dE (aA (bA ET (aA (aE tO (aB 0) (eC (.int 0))) aC)) (aA (bA ET (aA (aE tO (aB 0) (eC (.int 2))) aC)) aC)))) aC)))
  (aQ (aF cP (aA (bA ET (aA (aE bZ (aB 1) (eC (.int 0))) aC)) (aA (aB 3) aC))))))))
noncomputable def eL:dP:=aX 2 2
  (aQ (aE joinM (eC (.str " ")) (aE bM (dD (aA (bA jB (aA (aB 0) aC)) aC)) (bC 2 [] (bE (aB 1)) (g2 0 1) bF (aE B1 (aE B1 (bA jB (aA (aB 0) aC)) (eC (.str "<"))) (bA jB (aA (aB 1) aC)))))))
noncomputable def gS:dP:=aX 4 1
  (aH (fR 1 (dD aC))
  (aH (cR (bE (aF LL.cU (aA (aB 0) aC))) (nY 2 3)
   (fD (fE (tV (bA anyM (aA (bC 1 [2,0,3] (aV (aA (bA bL (aA (aB 0) aC)) aC)) (g1 0) bF (fZ (aE (jX false) (aB 1) (aE bZ (aB 2) (aB 0))) (aE (jX false) (aB 0) (aE bZ (aB 2) (aB 3))))) aC))))
    (sX (iR 1 eF (aM (dE (aA (aB 2) (aA (aB 3) aC))))))
    cM))
  (aQ (aB 1))))
noncomputable def eO:dP:=aX 5 2
  (aH (fR 2 (dD aC))
  (aH (cR (iW (aA (aB 0) aC)) (nY 3 4)
   (aH (sX (ER 2 (aE cJ (aE bZ (aB 1) (aB 3)) (aE bM (bA bL (aA (aB 2) aC)) (eC (.int 1)))) (aB 4)))
   (fD (mC (tV (aE jI (aE cJ (aE kH (aE bZ (aB 1) (aB 3)) (eC (.int 64))) (eC (.int 4))) (eC (.int 1)))) (tV (aE jI (aE cJ (aE bZ (aB 1) (aB 3)) (eC (.int 11))) (eC (.int 3)))))
    (sX (iR 2 eF (aM (aB 4))))
    cM)))
  (aH (fD (lW (tV (aE EC (bA bL (aA (aB 0) aC)) (eC (.int 0)))) (tV (aE jI (aE cJ (aE bZ (aB 1) (eC (.int 0))) (eC (.int 5))) (eC (.int 2)))))
   (rG 2 (aE zF (aB 2) (aE repLM (aB 2) (aE cJ (aE bZ (aB 1) (eC (.int 1))) (eC (.int 10))))))
   cM)
  (aQ (NH (aB 2) NG (oE (eC (.int 240))))))))
noncomputable def dF:dP:=aX 4 2
  (aH (aN 2 (bA bL (aA (aB 0) aC)))
  (aH (aN 3 (aF eL (aA (aB 2) (aA (aF gS (aA (aB 0) aC)) aC))))
  (aH (fD (mC (fE (tV (aF (LL.aZ 6) (aA (aF eW (aA (aB 0) aC)) (aA (aB 3) aC))))) (fE (tV (aF (LL.aZ 6) (aA (aF dS (aA (aB 3) aC)) (aA (aB 0) aC))))))
   (aQ (eC (.bl false)))
   cM)
  (aQ (aF (LL.aZ 6) (aA (aF dS (aA (aF eL (aA (aB 2) (aA (aF eO (aA (aF LL.cU (aA (aB 0) aC)) (aA (aB 1) aC))) aC))) aC)) (aA (aB 0) aC)))))))
noncomputable def mF:dP:=aX 4 1
  (aH (aN 1 (aF LL.dQ (aA (aB 0) (aA (eC (.int 0)) (aA (eC (.int 9)) (aA (eC (.int 100003)) aC))))))
  (aH (aN 2 (aF LL.dQ (aA (aB 0) (aA (eC (.int 2)) (aA (eC (.int 9)) (aA (eC (.int 300007)) aC))))))
  (aH (aN 3 (aF LL.cK (aA (aF LL.dB (aA (aB 0) (aA (eC (.int 4)) aC))) (aA (eC (.int 36)) (aA (eC (.int 500009)) aC)))))
  (aQ (fZ (aF dF (aA (aB 1) (aA (aB 3) aC))) (fZ (aF dF (aA (aB 2) (aA (aB 3) aC))) (aF dF (aA (aB 1) (aA (NL (aB 3)) aC)))))))))
end K06
end
section
namespace K06
open PySem L3 L4 LL
noncomputable def nE (a:Int):Str:=⟨#[48+a.toNat]⟩
noncomputable def eG (p:Int×Int):Str:=⟨#[48+p.1.toNat,60,48+p.2.toNat]⟩
noncomputable def F9 (a:Int):Prop:=0<=a/\a<10
theorem S5:∀ n:Nat,n<10->Str.ofString (toString (n:Int))=(⟨#[48+n]⟩:Str):=by decide +kernel
theorem lJ {a:Int} (h:F9 a):jB [.int a]=some (.str (nE a)):=by
 unfold jB
 show (if a.natAbs<1900 then some (D.str (Str.ofString (toString a))) else none)=_
 have h1:=h.1
 have h2:=h.2
 rw [if_pos (by omega)]
 have:=S5 a.toNat (by omega)
 rw [Int.toNat_of_nonneg h1] at this
 rw [this]
 rfl
theorem S6:∀ n:Nat,n<10->(Builtin.Str.occurrences "0123456789" ⟨#[48+n]⟩ 0 ("0123456789" : Str).length 1).isEmpty=false:=by decide +kernel
theorem E9 {a:Int} (h:F9 a):dM [.str (nE a)]=.ok (.bl true):=by
 unfold dM
 have h1:=h.1
 have h2:=h.2
 refine gR rfl (gU (E7 (p:=true) (cC (x:=.int 1) (y:=.int 1) (fA (x:=.str (nE a)) rfl ?_) rfl eU) (fun _=>?_) fun z=>by cases z))
 ·rfl
 ·refine cC (x:=.str (nE a)) (y:=.str "0123456789") rfl rfl ?_
  show some (D.bl (!(Builtin.Str.occurrences "0123456789" ⟨#[48+a.toNat]⟩ 0 ("0123456789" : Str).length 1).isEmpty))=_
  rw [S6 a.toNat (by omega)]
  rfl
theorem AD {a:Int} (h:F9 a):ET [.str (nE a)]=some (.int a):=by
 have h1:=h.1
 have h2:=h.2
 show (if 48<=48+a.toNat/\48+a.toNat<=57 then some (D.int (((48+a.toNat:Nat):Int) - 48)) else none)=_
 rw [if_pos (by omega)]
 congr 2
 omega
theorem ID (p:Int×Int):tO (.str (eG p)) (.int 0)=some (.str (nE p.1)):=rfl
theorem S7 (p:Int×Int):tO (.str (eG p)) (.int 1)=some (.str "<"):=rfl
theorem IE (p:Int×Int):tO (.str (eG p)) (.int 2)=some (.str (nE p.2)):=rfl
theorem X5 {p:Int×Int} (h1:F9 p.1) (h2:F9 p.2):eB [.str (eG p)]=.ok (.bl true):=by
 unfold eB
 refine gR rfl (gU (E7 (p:=true) (cC (x:=.int 3) (y:=.int 3) (fA (x:=.str (eG p)) rfl rfl) rfl eU) (fun _=>?_) fun z=>by cases z))
 refine E7 (p:=true) (gW (x:=.str (nE p.1)) (cC (x:=.str (eG p)) (y:=.int 0) rfl rfl (ID p)) (E9 h1)) (fun _=>?_) fun z=>by cases z
 refine E7 (p:=true) (cC (x:=.str "<") (y:=.str "<") (cC (x:=.str (eG p)) (y:=.int 1) rfl rfl (S7 p)) rfl j0) (fun _=>?_) fun z=>by cases z
 exact gW (x:=.str (nE p.2)) (cC (x:=.str (eG p)) (y:=.int 2) rfl rfl (IE p)) (E9 h2)
theorem aBJ {c:Nat}:∀ {p q X Y:List Nat},c∉p->c∉q->p++c::X=q++c::Y->p=q/\X=Y
 | [],[],X,Y,_,_,h=>⟨rfl,(List.cons.inj h).2⟩
 | [],b::q,X,Y,_,hq,h=>absurd (List.cons.inj h).1 fun e=>hq (by rw [e]; exact List.mem_cons_self)
 | a::p,[],X,Y,hp,_,h=>absurd (List.cons.inj h).1 fun e=>hp (by rw [<- e]; exact List.mem_cons_self)
 | a::p,b::q,X,Y,hp,hq,h=>by
  obtain ⟨e1,e2⟩:=List.cons.inj h
  obtain ⟨e3,e4⟩:=aBJ (fun z=>hp (List.mem_cons_of_mem _ z)) (fun z=>hq (List.mem_cons_of_mem _ z)) e2
  exact ⟨by rw [e1,e3],e4⟩
theorem V8 {a b:Str} (h:a.cps.toList=b.cps.toList):a=b:=by
 obtain ⟨⟨a⟩⟩:=a
 obtain ⟨⟨b⟩⟩:=b
 have:a=b:=h
 rw [this]
theorem oG (c:Nat) (p q:Str) (r:List Str):(Str.join ⟨#[c]⟩ (p::q::r)).cps.toList=p.cps.toList++c::(Str.join ⟨#[c]⟩ (q::r)).cps.toList:=by
 show (p++⟨#[c]⟩++Str.join ⟨#[c]⟩ (q::r)).cps.toList=_
 rw [Str.cps_append,Str.cps_append,Array.toList_append,Array.toList_append,List.append_assoc]
 rfl
theorem CD {c:Nat}:∀ {ps qs:List Str},ps≠[]->qs≠[]->(∀ p∈ps,c∉p.cps.toList)->(∀ q∈qs,c∉q.cps.toList)->(Str.join ⟨#[c]⟩ ps).cps.toList=(Str.join ⟨#[c]⟩ qs).cps.toList->ps=qs
 | [],_,h,_,_,_,_=>absurd rfl h
 | _::_,[],_,h,_,_,_=>absurd rfl h
 | [p],[q],_,_,_,_,h=>by rw [V8 (a:=p) (b:=q) h]
 | [p],q::q'::r,_,_,hp,_,h=>by
  rw [oG] at h
  exact absurd (by rw [show (Str.join ⟨#[c]⟩ [p])=p from rfl] at h; rw [h]; simp) (hp p List.mem_cons_self)
 | p::p'::r,[q],_,_,_,hq,h=>by
  rw [oG] at h
  exact absurd (by rw [show (Str.join ⟨#[c]⟩ [q])=q from rfl] at h; rw [<- h]; simp) (hq q List.mem_cons_self)
 | p::p'::r,q::q'::s,_,_,hp,hq,h=>by
  rw [oG,oG] at h
  obtain ⟨e1,e2⟩:=aBJ (hp p List.mem_cons_self) (hq q List.mem_cons_self) h
  rw [V8 e1,CD (ps:=p'::r) (qs:=q'::s) (fun z=>by cases z) (fun z=>by cases z) (fun a ha=>hp a (List.mem_cons_of_mem _ ha)) (fun a ha=>hq a (List.mem_cons_of_mem _ ha)) e2]
theorem FA {c:Nat} {ws:List Str} (h0:ws≠[]) (h:∀ w∈ws,c∉w.cps.toList):Txt.split (Txt.join ⟨#[c]⟩ ws) ⟨#[c]⟩=ws:=by
 have e:Txt.join ⟨#[c]⟩ ws=Str.join ⟨#[c]⟩ ws:=StrLaws.glued_eq_join _ _
 rw [e]
 have j:=StrLaws.join_split (Str.join ⟨#[c]⟩ ws) ⟨#[c]⟩
 refine CD (c:=c) (fun z=>?_) h0 (StrLaws.split_free _ c) h (by rw [j])
 rw [z] at j
 cases ws with
 | nil=>exact h0 rfl
 | cons w r =>
  have:=(PyProof.Rows.fact_split (Str.join ⟨#[c]⟩ (w::r)) ⟨#[c]⟩).1
  rw [z] at this
  exact absurd this (by decide)
noncomputable def qE (n:Int) (P:List (Int×Int)):List Str:=nE n::P.map eG
noncomputable def txt (n:Int) (P:List (Int×Int)):Str:=Txt.join " " (qE n P)
theorem OJ {n:Int} {P:List (Int×Int)}:∀ w∈qE n P,(32:Nat)∉w.cps.toList:=fun w hw=>by
 unfold qE at hw
 rcases List.mem_cons.1 hw with e | e
 ·rw [e]
  show (32:Nat)∉[48+n.toNat]
  simp
  omega
 ·obtain ⟨p,_,rfl⟩:=List.mem_map.1 e
  show (32:Nat)∉[48+p.1.toNat,60,48+p.2.toNat]
  simp
  omega
theorem KC (n:Int) (P:List (Int×Int)):Txt.split (txt n P) " " = qE n P:=FA (c:=32) (fun z=>by cases z) OJ
theorem uJ (n:Int):∀ P:List (Int×Int),((P.map eG).map (·.length)).sum=3*P.length
 | []=>rfl
 | p::P=>by
  rw [List.map_cons,List.map_cons,List.sum_cons,uJ n P,List.length_cons]
  show 3+3*P.length=_
  omega
theorem KG {n:Int} {P:List (Int×Int)} (h:P.length<=1000):((qE n P).map (·.length)).sum+(qE n P).length*(" " : Str).length<=gX:=by
 unfold qE
 rw [List.map_cons,List.sum_cons,uJ n,List.length_cons,List.length_map]
 show 1+3*P.length+(P.length+1)*1<=16777216
 omega
theorem KH {n:Int} {P:List (Int×Int)} (h:P.length<=1000):(txt n P).length+2<=gX:=by
 have e:txt n P=Str.join " " (qE n P):=StrLaws.glued_eq_join _ _
 have:=StrLaws.join_length_le " " (qE n P)
 rw [<- e] at this
 unfold qE at this
 rw [List.map_cons,List.sum_cons,uJ n,List.length_cons,List.length_map] at this
 have this:(txt n P).length<=1+3*P.length+(P.length+1)*1:=this
 show _<=16777216
 omega
theorem strs_map:∀ l:List Str,tP (l.map D.str)=some l
 | []=>rfl
 | x::l=>by
  rw [List.map_cons]
  show (tP (l.map D.str)).map (x :: ·)=_
  rw [strs_map l]
  rfl
theorem IF {n:Int} {P:List (Int×Int)} (h:P.length<=1000):joinM (.str " ") (.lst ((qE n P).map D.str))=some (.str (txt n P)):=by
 show (tP ((qE n P).map D.str)).bind _=_
 rw [strs_map]
 show (if ((qE n P).map (·.length)).sum+(qE n P).length*(" " : Str).length<=gX then some (D.str (Txt.join " " (qE n P))) else none)=_
 rw [if_pos (KG h)]
 rfl
noncomputable def FP (P:List (Int×Int)):Prop:=∀ p∈P,F9 p.1/\F9 p.2
theorem uK {n:Int} {P:List (Int×Int)} (hn:F9 n) (hP:FP P) (hl:P.length<=1000):eL [.int n,.lst (P.map pairD)]=.ok (.str (txt n P)):=by
 unfold eL
 refine gR rfl (gU (cC (x:=.str " ") (y:=.lst ((qE n P).map D.str)) rfl (cC (x:=.lst [.str (nE n)]) (y:=.lst ((P.map eG).map D.str)) ?_ (j9 (P.map pairD) rfl (by rw [List.length_map]; omega) ?_) ?_) (IF hl)))
 ·have:bA jB (aA (aB 0) aC) (bQ (cV 2 [.int n,.lst (P.map pairD)]))=some (.str (nE n)):=fA rfl (lJ hn)
  show ((bA jB (aA (aB 0) aC) (bQ (cV 2 [.int n,.lst (P.map pairD)]))).bind _).bind _=_
  rw [this]
  rfl
 ·rw [List.map_map]
  refine fI pairD (fun p=>D.str (eG p)) P fun p hp=>⟨_,rfl,?_⟩
  exact cC (x:=.str (nE p.1 ++ "<")) (y:=.str (nE p.2)) (cC (x:=.str (nE p.1)) (y:=.str "<") (fA rfl (lJ (hP p hp).1)) rfl rfl) (fA rfl (lJ (hP p hp).2)) rfl
 ·show (if [D.str (nE n)].length+((P.map eG).map D.str).length<=gX then some (D.lst ([D.str (nE n)]++(P.map eG).map D.str)) else none)=_
  rw [if_pos (by rw [List.length_map,List.length_map]; show 1+P.length<=16777216; omega)]
  rfl
theorem wV {x:List (List Int)} (hx:Ord.Rows x) (hn:x.length<=9):eW [aY x]=.ok (.str (txt x.length (dR.B x))):=by
 have hl:(dR.B x).length<64:=Nat.lt_of_le_of_lt (List.length_filter_le _ _) (dR.HX hx hn)
 have hP:FP (dR.B x):=fun p hp=>by
  obtain ⟨h0,h1,h2⟩:=dR.oC.1 (List.mem_filter.1 hp).1
  have:=dR.gZ hx h0 h1 h2
  exact ⟨⟨this.1,by omega⟩,⟨h0,by omega⟩⟩
 have eb:cZ [aY x]=.ok (.tup ((dR.B x).map pairD)):=dR.zY hx hn
 unfold eW
 have e1:dD (aA (bA jB (aA (bA bL (aA (aB 0) aC)) aC)) aC) (jY (cV 2 [aY x]))=some (.lst [.str (nE x.length)]):=by
  have:bA jB (aA (bA bL (aA (aB 0) aC)) aC) (jY (cV 2 [aY x]))=some (.str (nE x.length)):=fA (x:=.int x.length) (fA rfl lI) (lJ ⟨by omega,by omega⟩)
  show ((bA jB (aA (bA bL (aA (aB 0) aC)) aC) (jY (cV 2 [aY x]))).bind _).bind _=_
  rw [this]
  rfl
 refine gR rfl (cN [.ro (aY x),.ow (.lst [.str (nE x.length)])] (aEk e1) (cN [.ro (aY x),.ow (.lst ((qE x.length (dR.B x)).map D.str))] ?_ (gU (cC (x:=.str " ") (y:=.lst ((qE x.length (dR.B x)).map D.str)) rfl rfl (IF (by omega))))))
 have ec:bC 2 [] (bE (aF cZ (aA (aB 0) aC))) (g2 0 1) bF (HN (bA jB (aA (aB 0) aC)) (eC (.str "<")) (bA jB (aA (aB 1) aC))) (jY [.ro (aY x),.ow (.lst [.str (nE x.length)])])=some (.lst (((dR.B x).map eG).map D.str)):=by
  refine j9 ((dR.B x).map pairD) ?_ (by rw [List.length_map]; omega) ?_
  ·unfold bE
   rw [gW (x:=aY x) rfl eb]
   rfl
  ·rw [List.map_map]
   refine fI pairD (fun p=>D.str (eG p)) (dR.B x) fun p hp=>⟨_,rfl,?_⟩
   unfold HN
   rw [fA (x:=.int p.1) rfl (lJ (hP p hp).1)]
   show ((bA jB (aA (aB 1) aC) _).bind _)=_
   rw [fA (x:=.int p.2) rfl (lJ (hP p hp).2)]
   rfl
 have ex:BX [.str (nE x.length)] (.lst (((dR.B x).map eG).map D.str))=some ([.str (nE x.length)]++((dR.B x).map eG).map D.str,.non):=by
  show (if _ then _ else _)=_
  rw [if_pos (by show 1+(((dR.B x).map eG).map D.str).length<=16777216; rw [List.length_map,List.length_map]; omega)]
 refine (dR.sXE (dR.SX (ρ1:=[.ro (aY x),.ow (.lst [.str (nE x.length)])]) (ds0:=[.str (nE x.length)]) (ds:=[.str (nE x.length)]) (d:=.lst (((dR.B x).map eG).map D.str)) rfl ?_ rfl ex)).trans rfl
 unfold aM
 rw [ec]
 rfl
theorem CF (n:Int) (P:List (Int×Int)):bZ (.lst ((qE n P).map D.str)) (.int 0)=some (.str (nE n)):=tF (k:=0) rfl
theorem IG {n:Int} {P:List (Int×Int)} {d:D} (hn:F9 n) (hP:FP P) (hl:P.length<=1000) (h:cP [.int n,.tup (P.map pairD)]=.ok d):dS [.str (txt n P)]=.ok d:=by
 unfold dS
 have e1:aE splitM (aB 0) (eC (.str " ")) (jY (cV 4 [.str (txt n P)]))=some (.lst ((qE n P).map D.str)):=by
  refine cC (x:=.str (txt n P)) (y:=.str " ") rfl rfl ?_
  show (if (txt n P).length+2<=gX/\((" " : Str).length == 0)=false then some (D.lst ((Txt.split (txt n P) " ").map D.str)) else none)=_
  rw [if_pos ⟨KH hl,rfl⟩,KC]
 have e2:NH (aB 1) (oE (eC (.int 1))) NG (jY [.ro (.str (txt n P)),.ro (.lst ((qE n P).map D.str)),.no,.no])=some (.lst ((P.map eG).map D.str)):=by
  show some (D.lst (J0 ((qE n P).map D.str) (some 1) none))=_
  unfold J0 qE
  rw [List.map_cons,List.length_cons]
  have s1:zG (((P.map eG).map D.str).length+1) 0 (some 1)=1:=by
   unfold zG
   simp
  have s2:zG (((P.map eG).map D.str).length+1) (((P.map eG).map D.str).length+1) none=((P.map eG).map D.str).length+1:=rfl
  rw [s1,s2]
  show some (D.lst (((P.map eG).map D.str).take (((P.map eG).map D.str).length+1 - 1)))=_
  rw [Nat.add_sub_cancel,List.take_length]
 refine gR rfl (cN _ (iS _ e1 rfl) (cN _ (iS _ e2 rfl) (cN [.ro (.str (txt n P)),.ro (.lst ((qE n P).map D.str)),.ro (.lst ((P.map eG).map D.str)),.no] (BP ?_ rfl) (cN [.ro (.str (txt n P)),.ro (.lst ((qE n P).map D.str)),.ro (.lst ((P.map eG).map D.str)),.ro (.tup (P.map pairD))] (iS (.tup (P.map pairD)) ?_ rfl) (gU ?_)))))
 ·refine NY (b:=false) (XT (EX (gW (x:=.str (nE n)) (cC (x:=.lst ((qE n P).map D.str)) (y:=.int 0) rfl rfl (CF n P)) (E9 hn)) rfl) rfl) (fun _=>?_) fun z=>by cases z
  refine XT (b:=true) (EX (d:=.bl true) (fA (x:=.lst (P.map fun _=>D.bl true)) (j9 ((P.map eG).map D.str) rfl (by rw [List.length_map,List.length_map]; omega) ?_) ?_) rfl) rfl
  ·rw [List.map_map]
   exact fI (D.str∘eG) (fun _=>D.bl true) P fun p hp=>⟨_,rfl,gW (x:=.str (eG p)) rfl (X5 (hP p hp).1 (hP p hp).2)⟩
  ·have e:(P.map fun _=>D.bl true)=(P.map fun _=>true).map D.bl:=by rw [List.map_map]; rfl
   rw [e,HQ]
   congr 2
   simp
 ·refine fA (x:=.lst (P.map pairD)) (j9 ((P.map eG).map D.str) rfl (by rw [List.length_map,List.length_map]; omega) ?_) rfl
  rw [List.map_map]
  refine fI (D.str∘eG) pairD P fun p hp=>⟨_,rfl,?_⟩
  exact aEc (fA (x:=.str (nE p.1)) (cC (x:=.str (eG p)) (y:=.int 0) rfl rfl (ID p)) (AD (hP p hp).1)) (fA (x:=.str (nE p.2)) (cC (x:=.str (eG p)) (y:=.int 2) rfl rfl (IE p)) (AD (hP p hp).2))
 ·exact eK (x:=.int n) (y:=.tup (P.map pairD)) (fA (x:=.str (nE n)) (cC (x:=.lst ((qE n P).map D.str)) (y:=.int 0) rfl rfl (CF n P)) (AD hn)) rfl h
theorem V9 {x:List (List Int)} (hx:Ord.Rows x) {P:List (Int×Int)} (hP:∀ p∈P,0<=p.2/\p.2<(x.length:Int)/\p.1∈row x p.2) {a b:Int} (t:TC P a b):0<=b/\b<(x.length:Int)/\a∈row x b:=by
 induction t with
 | one h=>exact hP _ h
 | more h _ ih=>exact ⟨ih.1,ih.2.1,dR.zX hx ih.1 ih.2.1 ih.2.2 (hP _ h).2.2⟩
theorem WB {n:Nat} {Pd:D}:∀ (P:List (Int×Int)) (v2 v3:Sv),E8.good n P=true -> ∃ w2 w3,gQ (nY 2 3) (sX (aM (aF LL.aJ (aA (aB 0) (aA (aB 2) (aA (aB 3) aC)))))) (P.map pairD) [.ro (.int n),.ro Pd,v2,v3,.no]=.nx [.ro (.int n),.ro Pd,w2,w3,.no]
 | [],v2,v3,_=>⟨v2,v3,rfl⟩
 | p::P,v2,v3,h=>by
  have h':((thing n p.1&&thing n p.2)&&E8.good n P)=true:=h
  rw [Bool.and_eq_true] at h'; rw [Bool.and_eq_true] at h'
  obtain ⟨w2,w3,e⟩:=WB (n:=n) (Pd:=Pd) P (.ro (.int p.1)) (.ro (.int p.2)) h'.2
  refine ⟨w2,w3,?_⟩
  have e1:sX (aM (aF LL.aJ (aA (aB 0) (aA (aB 2) (aA (aB 3) aC))))) [.ro (.int n),.ro Pd,.ro (.int p.1),.ro (.int p.2),.no]=.nx [.ro (.int n),.ro Pd,.ro (.int p.1),.ro (.int p.2),.no]:=by
   unfold sX aM
   rw [mW (x:=.int n) (y:=.int p.1) (z:=.int p.2) rfl rfl rfl (qB h'.1.1 h'.1.2)]
   rfl
  show (match sX (aM (aF LL.aJ (aA (aB 0) (aA (aB 2) (aA (aB 3) aC))))) [.ro (.int n),.ro Pd,.ro (.int p.1),.ro (.int p.2),.no] with | .nx ρ2=>gQ (nY 2 3) (sX (aM (aF LL.aJ (aA (aB 0) (aA (aB 2) (aA (aB 3) aC)))))) (P.map pairD) ρ2 | o=>o)=_
  rw [e1]
  exact e
theorem WC {x:List (List Int)} (hx:Ord.Rows x) (hn:x.length<=9) {Pd:D}:∀ (P Q:List (Int×Int)) (y:List (List Int)) (v2 v3:Sv),(∀ p∈Q++P,0<=p.2/\p.2<(x.length:Int)/\p.1∈row x p.2)->E8.good x.length P=true->E8.Inv x.length Q y ->
  ∃ z w2 w3,E8.Inv x.length (Q++P) z/\gQ (nY 2 3) (aN 4 (aF LL.bW (aA (aB 4) (aA (aB 2) (aA (aB 3) aC))))) (P.map pairD) [.ro (.int x.length),.ro Pd,v2,v3,.ro (aY y)]=.nx [.ro (.int x.length),.ro Pd,w2,w3,.ro (aY z)]
 | [],Q,y,v2,v3,_,_,h=>⟨y,v2,v3,by rw [List.append_nil]; exact h,rfl⟩
 | p::P,Q,y,v2,v3,hP,hg,h=>by
  have hg':((thing x.length p.1&&thing x.length p.2)&&E8.good x.length P)=true:=hg
  rw [Bool.and_eq_true,Bool.and_eq_true] at hg'
  obtain ⟨⟨ha,hb⟩,hG⟩:=hg'
  have hl:=h.len
  have ap:Q++p::P=(Q++[(p.1,p.2)])++P:=by simp
  have hlp:kA y p.1 p.2=false:=by
   cases e:kA y p.1 p.2 with
   | false=>rfl
   | true =>
    obtain ⟨c,t⟩:=h.loop ha e
    have t':=V9 hx hP (t.mono (Q:=Q++p::P) fun q hq=>by rw [ap]; exact List.mem_append_left _ hq)
    exact absurd t'.2.2 (dR.HW hx t'.1 t'.2.1)
  have e:=X0 (x:=y) (a:=p.1) (b:=p.2) (by omega) (E8.short h.rows (by omega)) (by rw [hl]; exact ha) (by rw [hl]; exact hb) hlp
  obtain ⟨z,w2,w3,hz,ez⟩:=WC hx hn (Pd:=Pd) P (Q++[(p.1,p.2)]) (LL.put y p.1 p.2) (.ro (.int p.1)) (.ro (.int p.2)) (by rw [<- ap]; exact hP) hG (h.put ha hb hlp)
  refine ⟨z,w2,w3,by rw [ap]; exact hz,?_⟩
  have e1:aN 4 (aF LL.bW (aA (aB 4) (aA (aB 2) (aA (aB 3) aC)))) [.ro (.int x.length),.ro Pd,.ro (.int p.1),.ro (.int p.2),.ro (aY y)]=.nx [.ro (.int x.length),.ro Pd,.ro (.int p.1),.ro (.int p.2),.ro (aY (LL.put y p.1 p.2))]:=iS _ (mW rfl rfl rfl e) rfl
  show (match aN 4 (aF LL.bW (aA (aB 4) (aA (aB 2) (aA (aB 3) aC)))) [.ro (.int x.length),.ro Pd,.ro (.int p.1),.ro (.int p.2),.ro (aY y)] with | .nx ρ2=>gQ (nY 2 3) (aN 4 (aF LL.bW (aA (aB 4) (aA (aB 2) (aA (aB 3) aC))))) (P.map pairD) ρ2 | o=>o)=_
  rw [e1]
  exact ez
theorem S8 {x y:List (List Int)} (hx:Ord.Rows x) (hy:Ord.Rows y) (hl:y.length=x.length) (h:∀ a b:Int,0<=b->b<(x.length:Int)->(a∈row y b↔a∈row x b)):y=x:=by
 refine List.ext_getElem hl fun i h1 h2=>?_
 have e1:y[i]? = some y[i]:=List.getElem?_eq_getElem h1
 have e2:x[i]? = some x[i]:=List.getElem?_eq_getElem h2
 have q:=fun a=>h a (i:Int) (by omega) (by omega)
 unfold row at q
 rw [Int.toNat_natCast,e1,e2] at q
 exact xS ((List.perm_ext_iff_of_nodup ((hy.up i _ e1).imp fun q=>by omega) ((hx.up i _ e2).imp fun q=>by omega)).2 q) ((hy.up i _ e1).imp fun q=>by omega) ((hx.up i _ e2).imp fun q=>by omega)
theorem rP {x:List (List Int)} (hx:Ord.Rows x) (hn:x.length<=9) {P:List (Int×Int)} (hP:∀ p∈P,0<=p.2/\p.2<(x.length:Int)/\p.1∈row x p.2) (hT:∀ a b:Int,0<=b->b<(x.length:Int)->a∈row x b->TC P a b) :
  cP [.int x.length,.tup (P.map pairD)]=.ok (aY x):=by
 have hg:E8.good x.length P=true:=List.all_eq_true.2 fun p hp=>by
  obtain ⟨h0,h1,h2⟩:=hP p hp
  have:=dR.gZ hx h0 h1 h2
  rw [Bool.and_eq_true,eV,eV]
  exact ⟨⟨this.1,this.2⟩,h0,h1⟩
 obtain ⟨w2,w3,e1⟩:=WB (n:=x.length) (Pd:=.tup (P.map pairD)) P .no .no hg
 obtain ⟨z,u2,u3,hz,e2⟩:=WC hx hn (Pd:=.tup (P.map pairD)) P [] (List.replicate x.length []) w2 w3 hP hg (E8.Inv.nil x.length)
 have hzx:z=x:=S8 hx hz.rows hz.len fun a b h0 h1=>⟨fun m=>(V9 hx hP (hz.sub a b h0 h1 m)).2.2,fun m=>(hz.all (hT a b h0 h1 m)).2.2⟩
 subst hzx
 unfold cP
 exact gR rfl (cN _ (SJ _ rfl e1) (cN _ (iS _ (cC (x:=.tup [.tup []]) (y:=.int z.length) rfl rfl (E8.X4 hn)) rfl) (cN _ (SJ _ rfl e2) (gU rfl))))
theorem S9 {x:List (List Int)} (hx:Ord.Rows x) {a b:Int} (h0:0<=b) (h1:b<(x.length:Int)) (h:a∈row x b):TC (dR.B x) a b:=by
 classical
 have inB:∀ {a c:Int},0<=c->c<(x.length:Int)->a∈row x c->dR.e8 x (a,c)=true->(a,c)∈dR.B x:=fun h0 h1 hm hb=>List.mem_filter.2 ⟨dR.oC.2 ⟨h0,h1,hm⟩,hb⟩
 have hu:∀ a∈(row x b).filter (fun a=>decide (TC (dR.B x) a b)),a∈row x b/\TC (dR.B x) a b:=fun a ha=>by
  obtain ⟨m1,m2⟩:=List.mem_filter.1 ha
  exact ⟨m1,of_decide_eq_true m2⟩
 refine (hu a (dR.reach hx h0 h1 (fun a ha=>(hu a ha).1) (fun c hc a ha hb=>?_) _ a b (Nat.le_refl _) (.inl rfl) h)).2
 rcases hc with rfl | hc
 ·exact List.mem_filter.2 ⟨ha,decide_eq_true (.one (inB h0 h1 ha hb))⟩
 ·obtain ⟨m1,t⟩:=hu c hc
  have rc:=dR.gZ hx h0 h1 m1
  exact List.mem_filter.2 ⟨dR.zX hx h0 h1 m1 ha,decide_eq_true (.more (inB rc.1 rc.2 ha hb) t)⟩
theorem KI {x:List (List Int)} (hx:Ord.Rows x) (hn:x.length<=9):gS [aY x]=.ok (.lst ((dR.B x).map pairD)):=by
 unfold gS
 have hl:=dR.HX hx hn
 refine gR rfl (cN [.ro (aY x),.ow (.lst []),.no,.no] rfl ?_)
 obtain ⟨ρ',e,v2,v3,rfl⟩:Nx (cR (bE (aF LL.cU (aA (aB 0) aC))) (nY 2 3)
   (fD (fE (tV (bA anyM (aA (bC 1 [2,0,3] (aV (aA (bA bL (aA (aB 0) aC)) aC)) (g1 0) bF (fZ (aE (jX false) (aB 1) (aE bZ (aB 2) (aB 0))) (aE (jX false) (aB 0) (aE bZ (aB 2) (aB 3))))) aC))))
    (sX (iR 1 eF (aM (dE (aA (aB 2) (aA (aB 3) aC))))))
    cM) [.ro (aY x),.ow (.lst []),.no,.no]) (fun ρ=>∃ v2 v3,ρ=[Sv.ro (aY x),Sv.ow (.lst ((dR.B x).map pairD)),v2,v3]):=by
  refine t7 ((dR.T x).map pairD) (fun i ρ=>∃ v2 v3,ρ=[Sv.ro (aY x),Sv.ow (.lst ((((dR.T x).take i).filter (dR.e8 x)).map pairD)),v2,v3]) ?_ ⟨_,_,rfl⟩ ?_ fun ρ h=>by rw [List.length_map,List.take_length] at h; exact h
  ·unfold bE
   rw [gW (x:=aY x) rfl (xU hx hn)]
   rfl
  rintro i d _ hd ⟨v2,v3,rfl⟩
  rw [List.getElem?_map] at hd
  cases q:(dR.T x)[i]? with
  | none=>rw [q] at hd; cases hd
  | some p =>
   rw [q] at hd
   have hd:=Option.some.inj hd
   subst hd
   obtain ⟨h0,h1,h2⟩:=dR.oC.mp (List.mem_of_getElem? q)
   have ti:(dR.T x).take (i+1)=(dR.T x).take i++[p]:=by rw [List.take_succ,q]; rfl
   have tl:(((dR.T x).take i).filter (dR.e8 x)).length<=(dR.T x).length:=Nat.le_trans (List.length_filter_le _ _) (by rw [List.length_take]; omega)
   refine ⟨[.ro (aY x),.ow (.lst ((((dR.T x).take i).filter (dR.e8 x)).map pairD)),.ro (.int p.1),.ro (.int p.2)],rfl,?_⟩
   have ea:bA anyM (aA (bC 1 [2,0,3] (aV (aA (bA bL (aA (aB 0) aC)) aC)) (g1 0) bF (fZ (aE (jX false) (aB 1) (aE bZ (aB 2) (aB 0))) (aE (jX false) (aB 0) (aE bZ (aB 2) (aB 3))))) aC) (bQ [.ro (aY x),.ow (.lst ((((dR.T x).take i).filter (dR.e8 x)).map pairD)),.ro (.int p.1),.ro (.int p.2)])=some (.bl (!dR.e8 x p)):=by
    refine fA (x:=.lst ((cQ 0 x.length).map fun c=>D.bl ((row x c).contains p.1&&(row x p.2).contains c))) (j9 ((cQ 0 x.length).map D.int) (aAy (fA rfl lI) (by omega)) (by rw [List.length_map,bV]; omega) (fI D.int (fun c=>D.bl ((row x c).contains p.1&&(row x p.2).contains c)) _ fun c hc=>⟨_,rfl,?_⟩)) ?_
    ·have rc:=dH.1 hc
     refine E7 (p:=(row x c).contains p.1) (cC (x:=.int p.1) (y:=tupI (row x c)) rfl (cC (x:=aY x) (y:=.int c) rfl rfl (mY (by omega) (by omega))) uA) (fun h=>?_) fun h=>by rw [h]; rfl
     rw [h,Bool.true_and]
     exact cC (x:=.int c) (y:=tupI (row x p.2)) rfl (cC (x:=aY x) (y:=.int p.2) rfl rfl (mY h0 h1)) uA
    ·have e:((cQ 0 x.length).map fun c=>D.bl ((row x c).contains p.1&&(row x p.2).contains c))=((cQ 0 x.length).map fun c=>(row x c).contains p.1&&(row x p.2).contains c).map D.bl:=by rw [List.map_map]; rfl
     rw [e,HR]
     congr 2
     unfold dR.e8
     rw [Bool.not_not,List.any_map,Bool.eq_iff_iff,List.any_eq_true,List.any_eq_true]
     constructor
     ·rintro ⟨c,hc,h⟩
      have h:((row x c).contains p.1&&(row x p.2).contains c)=true:=h
      rw [Bool.and_eq_true] at h
      exact ⟨c,List.contains_iff_mem.1 h.2,h.1⟩
     ·rintro ⟨c,hc,h⟩
      have rc:=dR.gZ hx h0 h1 hc
      refine ⟨c,dH.2 (by omega),?_⟩
      show ((row x c).contains p.1&&(row x p.2).contains c)=true
      rw [h,List.contains_iff_mem.2 hc]
      rfl
   refine HS (dR.e8 x p) (XT (EX ea rfl) (Bool.not_not _)) (fun hb=>?_) fun hb=>?_
   ·refine ⟨_,dR.sXE (dR.SX (ds0:=(((dR.T x).take i).filter (dR.e8 x)).map pairD) (ds:=(((dR.T x).take i).filter (dR.e8 x)).map pairD) (d:=pairD p) rfl rfl rfl (lG (by rw [List.length_map]; omega))),?_⟩
    rw [ti,List.filter_append,List.filter_cons_of_pos hb,List.filter_nil,List.map_append]
    exact ⟨_,_,rfl⟩
   ·refine ⟨_,rfl,?_⟩
    rw [ti,List.filter_append,List.filter_cons_of_neg (by rw [hb]; exact Bool.false_ne_true),List.filter_nil,List.append_nil]
    exact ⟨_,_,rfl⟩
 exact cN _ e (gU rfl)
theorem IH {α:Type}:∀ (k:Nat) (l:List α) (a:α),a∈(List.replicate k l).flatten->a∈l
 | 0,l,a,h=>by cases h
 | k+1,l,a,h=>by
  rw [List.replicate_succ,List.flatten_cons] at h
  rcases List.mem_append.1 h with h | h
  ·exact h
  ·exact IH k l a h
theorem TB (k:Nat) (l:List (Int×Int)):(List.replicate k (l.map pairD)).flatten=((List.replicate k l).flatten).map pairD:=by
 induction k with
 | zero=>rfl
 | succ k ih=>rw [List.replicate_succ,List.replicate_succ,List.flatten_cons,List.flatten_cons,List.map_append,ih]
theorem II {α:Type} (k:Nat) (l:List α):((List.replicate k l).flatten).length=k*l.length:=by
 induction k with
 | zero=>simp
 | succ k ih=>rw [List.replicate_succ,List.flatten_cons,List.length_append,ih,Nat.succ_mul,Nat.add_comm]
theorem FC {T:List (Int×Int)} {d:List Int} (hT:T.length<=36) (hd:d.length=36) (hp:∀ i:Int,0<=at0 d i):∃ M:List (Int×Int),eO [.lst (T.map pairD),aL d]=.ok (.lst (M.map pairD))/\M.length<=240 /\ ∀ p,p∈M↔p∈T:=by
 have at1:∀ {ρ:bN} {e:EF} {i:Int},aB 1 ρ=some (aL d)->e ρ=some (.int i)->0<=i->i<36->aE bZ (aB 1) e ρ=some (.int (at0 d i)):=fun h0 he h1 h2=>cC h0 he (XZ h1 (by omega))
 obtain ⟨w,e,hq⟩:∃ w,eO [.lst (T.map pairD),aL d]=.ok w /\ ∃ M:List (Int×Int),w=.lst (M.map pairD)/\M.length<=240 /\ ∀ p,p∈M↔p∈T:=by
  unfold eO
  refine EW rfl (t6 (fun ρ=>ρ=[.ro (.lst (T.map pairD)),.ro (aL d),.ow (.lst []),.no,.no]) ⟨_,rfl,rfl⟩ ?_)
  rintro _ rfl
  refine t6 (fun ρ=>∃ (M:List (Int×Int)) (v3 v4:Sv),ρ=[.ro (.lst (T.map pairD)),.ro (aL d),.ow (.lst (M.map pairD)),v3,v4]/\M.length<=72 /\ ∀ p,p∈M↔p∈T) ?_ ?_
  ·refine t7 ((T.map pairD).zipIdx.map fun p=>D.tup [.int (p.2:Int),p.1]) (fun i ρ=>∃ (M:List (Int×Int)) (v3 v4:Sv),ρ=[.ro (.lst (T.map pairD)),.ro (aL d),.ow (.lst (M.map pairD)),v3,v4]/\M.length<=2*i /\ ∀ p,p∈M↔p∈T.take i) rfl ⟨[],_,_,rfl,Nat.le_refl _,fun p=>by simp⟩ ?_ ?_
   ·rintro i dd _ hdd ⟨M,v3,v4,rfl,hM,hm⟩
    rw [zipIdx_map,List.map_map,List.getElem?_map] at hdd
    obtain ⟨⟨t,j⟩,hz,rfl⟩:=Option.map_eq_some_iff.mp hdd
    have hj:j=i/\T[i]? = some t:=by
     rw [List.getElem?_zipIdx] at hz
     obtain ⟨r',e1,e2⟩:=Option.map_eq_some_iff.mp hz
     cases e2
     exact ⟨by omega,e1⟩
    obtain ⟨rfl,ht⟩:=hj
    have hi:j<T.length:=(List.getElem?_eq_some_iff.1 ht).1
    have tk:T.take (j+1)=T.take j++[t]:=by rw [List.take_succ,ht]; rfl
    refine ⟨[.ro (.lst (T.map pairD)),.ro (aL d),.ow (.lst (M.map pairD)),.ro (.int j),.ro (pairD t)],rfl,?_⟩
    have ek:aE cJ (aE bZ (aB 1) (aB 3)) (aE bM (bA bL (aA (aB 2) aC)) (eC (.int 1))) (bQ [.ro (.lst (T.map pairD)),.ro (aL d),.ow (.lst (M.map pairD)),.ro (.int j),.ro (pairD t)])=some (.int (at0 d j % (M.length+1))) :=
     cC (x:=.int (at0 d j)) (y:=.int (M.length+1)) (at1 rfl rfl (by omega) (by omega)) (cC (x:=.int M.length) (y:=.int 1) (fA rfl (by rw [kL,List.length_map])) rfl n0) (dG (by omega))
    have k0:=Int.emod_nonneg (at0 d j) (show (M.length+1:Int)≠0 by omega)
    have k1:=Int.emod_lt_of_pos (at0 d j) (show (0:Int)<M.length+1 by omega)
    generalize at0 d j % (M.length+1:Int)=k at ek k0 k1
    have ins:sX (ER 2 (aE cJ (aE bZ (aB 1) (aB 3)) (aE bM (bA bL (aA (aB 2) aC)) (eC (.int 1)))) (aB 4)) [.ro (.lst (T.map pairD)),.ro (aL d),.ow (.lst (M.map pairD)),.ro (.int j),.ro (pairD t)]=.nx [.ro (.lst (T.map pairD)),.ro (aL d),.ow (.lst ((M.take k.toNat++t::M.drop k.toNat).map pairD)),.ro (.int j),.ro (pairD t)]:=by
     refine dR.sXE (d:=.non) ?_
     unfold ER
     rw [ek]
     show (if (pairD t).tJ=true/\0<=k/\k<=((M.map pairD).length:Int)/\(M.map pairD).length<gX then some ([Sv.ro (.lst (T.map pairD)),Sv.ro (aL d),Sv.ow (.lst ((M.map pairD).take k.toNat++pairD t::(M.map pairD).drop k.toNat)),Sv.ro (.int j),Sv.ro (pairD t)],D.non) else none)=_
     rw [if_pos ⟨rfl,k0,by rw [List.length_map]; omega,by rw [List.length_map]; show _<16777216; omega⟩,List.map_append,List.map_cons,List.map_take,List.map_drop]
    have mm:∀ p,p∈M.take k.toNat++t::M.drop k.toNat↔p∈T.take (j+1):=fun p=>by
     rw [tk,List.mem_append,List.mem_append,List.mem_cons,List.mem_singleton,<- hm p]
     conv=>rhs; lhs; rw [<- List.take_append_drop k.toNat M]
     rw [List.mem_append]
     constructor
     ·rintro (h | h | h)
      ·exact .inl (.inl h)
      ·exact .inr h
      ·exact .inl (.inr h)
     ·rintro ((h | h) | h)
      ·exact .inl h
      ·exact .inr (.inr h)
      ·exact .inr (.inl h)
    have ml:(M.take k.toNat++t::M.drop k.toNat).length=M.length+1:=by rw [List.length_append,List.length_cons,List.length_take,List.length_drop]; omega
    generalize M.take k.toNat++t::M.drop k.toNat=N at ins mm ml
    refine EV (fun ρ=>ρ=[.ro (.lst (T.map pairD)),.ro (aL d),.ow (.lst (N.map pairD)),.ro (.int j),.ro (pairD t)]) ⟨_,ins,rfl⟩ ?_
    rintro _ rfl
    have ec:∃ c:Bool,mC (tV (aE jI (aE cJ (aE kH (aE bZ (aB 1) (aB 3)) (eC (.int 64))) (eC (.int 4))) (eC (.int 1)))) (tV (aE jI (aE cJ (aE bZ (aB 1) (aB 3)) (eC (.int 11))) (eC (.int 3)))) (bQ [.ro (.lst (T.map pairD)),.ro (aL d),.ow (.lst (N.map pairD)),.ro (.int j),.ro (pairD t)])=some c:=by
     refine ⟨decide (at0 d j / 64 % 4=1)||decide (at0 d j % 11=3),NY (EX (cC (x:=.int (at0 d j / 64 % 4)) (y:=.int 1) (cC (x:=.int (at0 d j / 64)) (y:=.int 4) (cC (x:=.int (at0 d j)) (y:=.int 64) (at1 rfl rfl (by omega) (by omega)) rfl (n5 (by decide) (by decide))) rfl (dG (by omega))) rfl eU) rfl) (fun h=>?_) fun h=>by rw [h]; rfl⟩
     rw [h,Bool.false_or]
     exact EX (cC (x:=.int (at0 d j % 11)) (y:=.int 3) (cC (x:=.int (at0 d j)) (y:=.int 11) (at1 rfl rfl (by omega) (by omega)) rfl (dG (by omega))) rfl eU) rfl
    obtain ⟨c,ec⟩:=ec
    refine HS c ec (fun _=>?_) fun _=>⟨_,rfl,N,_,_,rfl,by omega,mm⟩
    refine ⟨_,aEh (ds:=N.map pairD) (d:=pairD t) rfl rfl (by rw [List.length_map]; omega),N++[t],_,_,by rw [List.map_append]; rfl,by rw [List.length_append,List.length_singleton]; omega,fun p=>?_⟩
    rw [List.mem_append,List.mem_singleton,mm p,tk,List.mem_append,List.mem_singleton]
    constructor
    ·rintro (h | h)
     ·exact h
     ·exact .inr h
    ·exact .inl
   ·rintro ρ ⟨M,v3,v4,rfl,hM,hm⟩
    simp only [List.length_map,List.length_zipIdx] at hM hm
    exact ⟨M,v3,v4,rfl,by omega,fun p=>by rw [hm p,List.take_length]⟩
  rintro _ ⟨M,v3,v4,rfl,hM,hm⟩
  have ec:∃ c:Bool,lW (tV (aE EC (bA bL (aA (aB 0) aC)) (eC (.int 0)))) (tV (aE jI (aE cJ (aE bZ (aB 1) (eC (.int 0))) (eC (.int 5))) (eC (.int 2)))) (bQ [.ro (.lst (T.map pairD)),.ro (aL d),.ow (.lst (M.map pairD)),v3,v4])=some c:=by
   refine ⟨decide (0<((T.map pairD).length:Int))&&decide (at0 d 0 % 5=2),aAz (b:=decide (0<((T.map pairD).length:Int))) (EX (cC (x:=.int (T.map pairD).length) (y:=.int 0) (fA rfl kL) rfl sY) rfl) (fun h=>?_) fun h=>by rw [h]; rfl⟩
   rw [h,Bool.true_and]
   exact EX (cC (x:=.int (at0 d 0 % 5)) (y:=.int 2) (cC (x:=.int (at0 d 0)) (y:=.int 5) (at1 rfl rfl (by omega) (by omega)) rfl (dG (by omega))) rfl eU) rfl
  obtain ⟨c,ec⟩:=ec
  refine t6 (fun ρ=>∃ (N:List (Int×Int)),ρ=[.ro (.lst (T.map pairD)),.ro (aL d),.ow (.lst ((M++N).map pairD)),v3,v4]/\N.length<=1000 /\ ∀ p∈N,p∈M) (HS c ec (fun _=>?_) fun _=>⟨_,rfl,[],by rw [List.append_nil],by simp,fun p hp=>nomatch hp⟩) ?_
  ·have hk:0<=at0 d 1 % 10/\at0 d 1 % 10<10:=by omega
   have el:aE zF (aB 2) (aE repLM (aB 2) (aE cJ (aE bZ (aB 1) (eC (.int 1))) (eC (.int 10)))) (bQ [.ro (.lst (T.map pairD)),.ro (aL d),.ow (.lst (M.map pairD)),v3,v4])=some (.lst ((M++(List.replicate (at0 d 1 % 10).toNat M).flatten).map pairD)):=by
    have ml:(at0 d 1 % 10).toNat*M.length<=9*72:=Nat.mul_le_mul (by omega) hM
    refine cC (x:=.lst (M.map pairD)) (y:=.lst (((List.replicate (at0 d 1 % 10).toNat M).flatten).map pairD)) rfl (cC (x:=.lst (M.map pairD)) (y:=.int (at0 d 1 % 10)) rfl (cC (x:=.int (at0 d 1)) (y:=.int 10) (at1 rfl rfl (by omega) (by omega)) rfl (dG (by omega))) ?_) ?_
    ·show (if (M.map pairD).length*(at0 d 1 % 10).toNat<=gX/\(at0 d 1 % 10).natAbs<9223372036854775808 then some (D.lst (List.replicate (at0 d 1 % 10).toNat (M.map pairD)).flatten) else none)=_
     rw [if_pos ⟨by rw [List.length_map,Nat.mul_comm]; show _<=16777216; omega,by omega⟩,TB]
    ·show (if (M.map pairD).length+(((List.replicate (at0 d 1 % 10).toNat M).flatten).map pairD).length<=gX then some (D.lst (M.map pairD++((List.replicate (at0 d 1 % 10).toNat M).flatten).map pairD)) else none)=_
     rw [if_pos (by rw [List.length_map,List.length_map,II]; show _<=16777216; omega),<- List.map_append]
   refine ⟨_,?_,(List.replicate (at0 d 1 % 10).toNat M).flatten,rfl,?_,fun p hp=>IH _ _ p hp⟩
   ·unfold rG
    rw [el]
    show (if kJ (.lst ((M++(List.replicate (at0 d 1 % 10).toNat M).flatten).map pairD))=true then _ else _)=_
    rw [if_pos (show kJ (.lst ((M++(List.replicate (at0 d 1 % 10).toNat M).flatten).map pairD))=true from E8.uI _)]
    rfl
   ·rw [II]
    have ml:(at0 d 1 % 10).toNat*M.length<=9*72:=Nat.mul_le_mul (by omega) hM
    omega
  rintro _ ⟨N,rfl,hN,hn⟩
  have es:NH (aB 2) NG (oE (eC (.int 240))) (bQ [.ro (.lst (T.map pairD)),.ro (aL d),.ow (.lst ((M++N).map pairD)),v3,v4])=some (.lst (((M++N).take 240).map pairD)):=by
   show some (D.lst (J0 ((M++N).map pairD) none (some 240)))=_
   unfold J0
   have s1:zG ((M++N).map pairD).length 0 none=0:=rfl
   have s2:zG ((M++N).map pairD).length ((M++N).map pairD).length (some 240)=min 240 ((M++N).map pairD).length:=by
    unfold zG
    simp
   rw [s1,s2,List.drop_zero,Nat.sub_zero,List.map_take]
   congr 2
   rw [List.take_eq_take_iff]
   omega
  refine ⟨_,gU es,_,rfl,by rw [List.length_take]; omega,fun p=>?_⟩
  rw [<- hm p]
  constructor
  ·intro h
   rcases List.mem_append.1 (List.mem_of_mem_take h) with h | h
   ·exact h
   ·exact hn p h
  ·intro h
   rw [List.take_append,List.take_of_length_le (by omega)]
   exact List.mem_append_left _ h
 obtain ⟨M,rfl,h1,h2⟩:=hq
 exact ⟨M,e,h1,h2⟩
theorem same_str (x:Str):aZ 6 [.str x,.str x]=.ok (.bl true):=same_refl 6 (.str x) trivial
theorem uL {x:List (List Int)} (hx:Ord.Rows x) (hn:x.length<=9) {d:List Int} (hd:d.length=36) (hp:∀ i:Int,0<=at0 d i):dF [aY x,aL d]=.ok (.bl true):=by
 have nf:F9 (x.length:Int):=⟨by omega,by omega⟩
 have tf:∀ p∈dR.T x,F9 p.1/\F9 p.2:=fun p hp=>by
  obtain ⟨h0,h1,h2⟩:=dR.oC.1 hp
  have:=dR.gZ hx h0 h1 h2
  exact ⟨⟨this.1,by omega⟩,⟨h0,by omega⟩⟩
 have hl:=dR.HX hx hn
 have bl:(dR.B x).length<=1000:=Nat.le_trans (List.length_filter_le _ _) (by omega)
 have ob:cP [.int x.length,.tup ((dR.B x).map pairD)]=.ok (aY x):=rP hx hn (fun p hp=>dR.oC.1 (List.mem_filter.1 hp).1) fun a b h0 h1 h=>S9 hx h0 h1 h
 have t36:(dR.T x).length<=36:=by rw [(R8.uC _).length_eq]; exact R8.HV hx hn
 obtain ⟨M,eM,lM,mM⟩:=FC t36 hd hp
 have oM:cP [.int x.length,.tup (M.map pairD)]=.ok (aY x):=rP hx hn (fun p hp=>dR.oC.1 ((mM p).1 hp)) fun a b h0 h1 h=>.one ((mM (a,b)).2 (dR.oC.2 ⟨h0,h1,h⟩))
 have fB:FP (dR.B x):=fun p hp=>tf p (List.mem_filter.1 hp).1
 have fM:FP M:=fun p hp=>tf p ((mM p).1 hp)
 have so:aZ 6 [aY x,aY x]=.ok (.bl true):=same_refl 6 (aY x) (EZ (by omega) fun r hr=>Nat.le_trans (E8.short hx hn r hr) (by omega))
 unfold dF
 refine gR rfl (cN [.ro (aY x),.ro (aL d),.ro (.int x.length),.no] (iS _ (fA rfl lI) rfl) (cN [.ro (aY x),.ro (aL d),.ro (.int x.length),.ro (.str (txt x.length (dR.B x)))] (iS _ (eK (x:=.int x.length) rfl (gW rfl (KI hx hn)) (uK nf fB bl)) rfl) (cN _ (BP ?_ rfl) (gU ?_))))
 ·refine NY (b:=false) (XT (EX (eK (gW (x:=aY x) rfl (wV hx hn)) rfl (same_str _)) rfl) rfl) (fun _=>?_) fun z=>by cases z
  exact XT (EX (eK (gW (x:=.str (txt x.length (dR.B x))) rfl (IG nf fB bl ob)) rfl so) rfl) rfl
 ·exact eK (gW (x:=.str (txt x.length M)) (eK (x:=.int x.length) rfl (eK (x:=.lst ((dR.T x).map pairD)) (gW rfl (xU hx hn)) rfl eM) (uK nf fM (by omega))) (IG nf fM (by omega) oM)) rfl so
theorem OK (ns:List Int) (hns:ns.length<=63):mF [.nW ns]=.ok (.bl true):=by
 obtain ⟨_,e1,x,hx1,hx,rfl⟩:=B7 ns 0 9 100003 (by omega) (by omega)
 obtain ⟨_,e2,y,hy1,hy,rfl⟩:=B7 ns 2 9 300007 (by omega) (by omega)
 obtain ⟨c,ec⟩:=zV ns 4
 obtain ⟨d,hd,hp,ed⟩:=t8 c 36 500009 (by omega) (by omega)
 have hd:d.length=36:=hd
 have pos:∀ {l:List Int},(∀ a∈l,0<=a) -> ∀ i:Int,0<=at0 l i:=fun {l} h i=>by
  unfold at0
  cases e:l[i.toNat]? with
  | none=>exact Int.le_refl _
  | some a=>exact h a (List.mem_of_getElem? e)
 have rx:=uL hx (by omega) hd (pos hp)
 have ry:=uL hy (by omega) hd (pos hp)
 have rr:=uL hx (by omega) (d:=d.reverse) (by rw [List.length_reverse]; exact hd) (pos fun a ha=>hp a (List.mem_reverse.1 ha))
 have er:NL (aB 3) (bQ [.ro (.nW ns),.ro (aY x),.ro (aY y),.ro (aL d)])=some (aL d.reverse):=by
  show some (D.lst (d.map D.int).reverse)=_
  rw [<- List.map_reverse]
  rfl
 unfold mF
 refine gR rfl (cN [.ro (.nW ns),.ro (aY x),.no,.no] (iS _ (NX rfl rfl rfl rfl e1) rfl) (cN [.ro (.nW ns),.ro (aY x),.ro (aY y),.no] (iS _ (NX rfl rfl rfl rfl e2) rfl) (cN [.ro (.nW ns),.ro (aY x),.ro (aY y),.ro (aL d)] (iS _ (mW (x:=.int c) (eK (x:=.nW ns) (y:=.int 4) rfl rfl ec) rfl rfl ed) rfl) (gU ?_))))
 exact E7 (p:=true) (eK rfl rfl rx) (fun _=>E7 (p:=true) (eK rfl rfl ry) (fun _=>eK rfl er rr) fun z=>by cases z) fun z=>by cases z
end K06
end
section
-- CHANGE: your row's module here,as the last of these rows
namespace L2
open PySem PySem.Spec PyProof.Rows
noncomputable abbrev Key:=Sum Int Str
noncomputable def xW:Key->Value->Bool
 | .inl k,v=>Value.isInt k v
 | .inr x,v=>Value.isStrOf x v
noncomputable def aEm (w:World):Key->Int
 | .inl k=>hashInt k
 | .inr x=>hashStr w x
theorem cH:∀ {k:Key} {v:Value},xW k v=true->(∃ i t,k=Sum.inl i/\v=Value.int i t)\/(∃ x t,k=Sum.inr x/\v=Value.str x t)
 | .inl i,v,h=>by
  obtain ⟨t,e⟩:=Value.isInt_shape (k:=i) (v:=v) h
  exact .inl ⟨i,t,rfl,e⟩
 | .inr x,v,h=>by
  obtain ⟨t,e⟩:=Value.isStrOf_shape (x:=x) (v:=v) h
  exact .inr ⟨x,t,rfl,e⟩
theorem KJ (i:Int) (t:Tok):xW (.inl i) (.int i t)=true:=by simp [xW,Value.isInt]
theorem KL (x:Str) (t:Tok):xW (.inr x) (.str x t)=true:=by simp [xW,Value.isStrOf]
theorem X6 (a b:Int):decide ((Sum.inl a:Key)=Sum.inl b)=(a == b):=by
 by_cases e:a=b
 ·subst e; simp
 ·have h:¬ (Sum.inl a:Key)=Sum.inl b:=fun q=>e (Sum.inl.inj q)
  rw [decide_eq_false h]
  exact (beq_eq_false_iff_ne.mpr e).symm
theorem X7 (a b:Str):decide ((Sum.inr a:Key)=Sum.inr b)=decide (a=b):=by
 by_cases e:a=b
 ·subst e; simp
 ·have h:¬ (Sum.inr a:Key)=Sum.inr b:=fun q=>e (Sum.inr.inj q)
  rw [decide_eq_false h,decide_eq_false e]
theorem X8 (a:Int) (b:Str):decide ((Sum.inl a:Key)=Sum.inr b)=false:=decide_eq_false (fun q=>nomatch q)
theorem X9 (a:Str) (b:Int):decide ((Sum.inr a:Key)=Sum.inl b)=false:=decide_eq_false (fun q=>nomatch q)
noncomputable def bB (prog:Program) (w:World):PySem.KeyKind prog w Key where
 is:=xW
 hash:=aEm w
 inj:=fun v a b ha hb=>by
  rcases cH ha with ⟨i,t,rfl,rfl⟩ | ⟨x,t,rfl,rfl⟩
  ·rcases cH hb with ⟨j,u,rfl,e⟩ | ⟨y,u,rfl,e⟩
   ·injection e with e1 _; rw [e1]
   ·exact nomatch e
  ·rcases cH hb with ⟨j,u,rfl,e⟩ | ⟨y,u,rfl,e⟩
   ·exact nomatch e
   ·injection e with e1 _; rw [e1]
 byValue:=fun k v h=>by
  rcases cH h with ⟨i,t,rfl,rfl⟩ | ⟨x,t,rfl,rfl⟩<;>rfl
 pyHash:=fun hv h=>by
  rcases cH hv with ⟨i,t,rfl,rfl⟩ | ⟨x,t,rfl,rfl⟩
  ·exact wpAny_pyHash_int h
  ·exact wpAny_pyHash_str h
 eqBool:=fun hu hv h=>by
  rcases cH hu with ⟨i,t,rfl,rfl⟩ | ⟨x,t,rfl,rfl⟩
  ·rcases cH hv with ⟨j,u,rfl,rfl⟩ | ⟨y,u,rfl,rfl⟩
   ·rw [X6] at h; exact wpAny_eqBool_int h
   ·rw [X8] at h; exact SeqAt.EqAt.int_str i t y u _ _ _ _ h
  ·rcases cH hv with ⟨j,u,rfl,rfl⟩ | ⟨y,u,rfl,rfl⟩
   ·rw [X9] at h; exact SeqAt.EqAt.str_int x t j u _ _ _ _ h
   ·rw [X7] at h; exact wpAny_eqBool_str h
 «strs»:=fun k x t v h=>by
  rcases cH h with ⟨i,u,rfl,e⟩ | ⟨y,u,rfl,e⟩
  ·exact nomatch e
  ·injection e with e1 _
   subst e1
   cases v<;>rfl
theorem CG (prog:Program) (w:World) (i:Int) (t:Tok):(bB prog w).is (.inl i) (.int i t)=true:=KJ i t
theorem CH (prog:Program) (w:World) (x:Str) (t:Tok):(bB prog w).is (.inr x) (.str x t)=true:=KL x t
end L2
namespace L2
open PySem PySem.Spec PyProof.Rows
noncomputable abbrev N1:=List (Sum Key (List Key))
noncomputable abbrev KX:=Sum Key N1
section
variable {prog:Program} {w:World} {K:Type} [dK:DecidableEq K] (knd:KeyKind prog w K)
noncomputable def nF (h:Heap):Sum K (List K)->Value->Prop
 | .inl k,v=>knd.is k v=true
 | .inr ks,v=>∃ b,v=.ref b/\IsTupleKey knd h ks b
inductive gB (h:Heap):List (Sum K (List K))->List Value->Prop
 | nil:gB h [] []
 | cons {k:Sum K (List K)} {v:Value} {ks:List (Sum K (List K))} {vs:List Value}:nF knd h k v->gB h ks vs->gB h (k::ks) (v::vs)
noncomputable def gC (h:Heap) (ks:List (Sum K (List K))) (a:Addr):Prop:=∃ o items n,h.get? a=some o/\o.cls=.type "tuple" /\ o.data=.seq items n/\gB knd h ks items.toList
variable {knd}
theorem nF.inj {h:Heap} {v:Value}:∀ {x y:Sum K (List K)},nF knd h x v->nF knd h y v->x=y
 | .inl a,.inl b,hx,hy=>by rw [knd.inj _ _ _ hx hy]
 | .inl a,.inr b,hx,⟨q,e,_⟩=>by subst e; exact absurd (knd.byValue _ _ hx) (by simp [carriedByValue])
 | .inr a,.inl b,⟨q,e,_⟩,hy=>by subst e; exact absurd (knd.byValue _ _ hy) (by simp [carriedByValue])
 | .inr a,.inr b,⟨q,e,hx⟩,⟨r,f,hy⟩=>by
  subst e
  injection f with f
  subst f
  rw [hx.inj hy]
theorem gB.inj {h:Heap} {x:List (Sum K (List K))} {vs:List Value} (hx:gB knd h x vs):∀ {y},gB knd h y vs->x=y:=by
 induction hx with
 | nil=>intro y hy; cases hy; rfl
 | cons h1 _ ih =>
  intro y hy
  cases hy with
  | cons h2 t2=>rw [h1.inj h2,ih t2]
theorem gC.typeIs {s:Shared} {ks:List (Sum K (List K))} {a:Addr} (x:gC knd s.heap ks a):s.TypeIs (.ref a) "tuple" := let ⟨o,_,_,ho,hc,_⟩:=x; ⟨o,ho,hc⟩
theorem gC.inj {h:Heap} {a:Addr} {x y:List (Sum K (List K))} (hx:gC knd h x a) (hy:gC knd h y a):x=y:=by
 obtain ⟨o,its,n,ho,_,hd,hi⟩:=hx
 obtain ⟨o',its',n',ho',_,hd',hi'⟩:=hy
 rw [ho] at ho'
 cases ho'
 rw [hd] at hd'
 cases hd'
 exact hi.inj hi'
theorem gC.keeps {h h':Heap} {ks:List (Sum K (List K))} {a d:Addr} {o:Obj} {es ep} (x:gC knd h ks a) (ho:h.get? d=some o) (hd:o.data=.dict es ep) (hs:Heap.SameBut d h h'):gC knd h' ks a:=by
 obtain ⟨q,items,n,hq,hc,hi,his⟩:=x
 have ne:a≠d:=fun z=>by
  subst z
  rw [hq] at ho
  cases ho
  rw [hi] at hd
  cases hd
 refine ⟨q,items,n,(hs.2 a ne).trans hq,hc,hi,?_⟩
 have go:∀ {ks:List (Sum K (List K))} {vs:List Value},gB knd h ks vs->gB knd h' ks vs:=by
  intro ks vs t
  induction t with
  | nil=>exact .nil
  | @cons k v ks vs h1 _ ih =>
   refine .cons ?_ ih
   cases k with
   | inl k=>exact h1
   | inr k=>obtain ⟨b,e,hb⟩:=h1; exact ⟨b,e,hb.keeps ho hd hs⟩
 exact go his
noncomputable def oH (knd:KeyKind prog w K):Sum K (List K)->Int
 | .inl k=>knd.hash k
 | .inr ks=>tupleKeyHash knd ks
noncomputable def jJ:Sum K (List K)->Nat
 | .inl _=>1
 | .inr ks=>ks.length+1
noncomputable def uM (knd:KeyKind prog w K) (ks:List (Sum K (List K))):Int:=reduceHash (Builtin.Tuple.tupleHashOf (ks.map (oH knd)))
noncomputable def lK (ks:List (Sum K (List K))):Nat:=(ks.map jJ).sum+1
variable {s:Shared} {A:Around} {E:Value->Shared->Prop}
theorem KN {k:Sum K (List K)} {v:Value} {Q:Int->Shared->Prop} (hu:A.units<cLine) (hk:nF knd s.heap k v) (h:Q (oH knd k) { s with toks:=s.toks+jJ k }):wpAny (model prog w) A (pyHash v) Q E s:=by
 cases k with
 | inl k=>exact knd.pyHash hk h
 | inr k =>
  obtain ⟨b,e,hb⟩:=hk
  subst e
  exact wpAny_pyHash_tuple hu hb h
theorem uN {ks:List K} {b:Addr} {h:Heap} (x:IsTupleKey knd h ks b):∃ items,h.IsTuple b items:=by
 obtain ⟨o,items,n,ho,hc,hd,_⟩:=x
 exact ⟨items,o,ho,hc,n,hd⟩
end
section
variable {P:Program} {w:World} {A:Around} {E:Value->Shared->Prop} {s:Shared}
theorem TH {x y:Sum Key (List Key)} {u v:Value} {Q:Bool->Shared->Prop} (hu:A.units<cLine) (hx:nF (bB P w) s.heap x u) (hy:nF (bB P w) s.heap y v) (h:Q (decide (x=y)) s):wpAny (model P w) A (eqBool u v) Q E s:=by
 cases x with
 | inl x =>
  cases y with
  | inl y =>
   refine (bB P w).eqBool hx hy ?_
   rw [show decide (x=y)=decide ((Sum.inl x:Sum Key (List Key))=Sum.inl y) by simp]
   exact h
  | inr y =>
   obtain ⟨b,e,hb⟩:=hy
   subst e
   obtain ⟨its,hb⟩:=uN hb
   rw [show decide ((Sum.inl x:Sum Key (List Key))=Sum.inr y)=false by simp] at h
   rcases cH hx with ⟨i,t,rfl,rfl⟩ | ⟨i,t,rfl,rfl⟩
   ·exact SeqAt.EqAt.int_tuple i t hb hu P w E Q h
   ·exact SeqAt.EqAt.str_tuple i t hb hu P w E Q h
 | inr x =>
  obtain ⟨a,e,ha⟩:=hx
  subst e
  cases y with
  | inl y =>
   obtain ⟨its,ha⟩:=uN ha
   rw [show decide ((Sum.inr x:Sum Key (List Key))=Sum.inl y)=false by simp] at h
   rcases cH hy with ⟨i,t,rfl,rfl⟩ | ⟨i,t,rfl,rfl⟩
   ·exact SeqAt.EqAt.tuple_int i t ha hu P w E Q h
   ·exact SeqAt.EqAt.tuple_str i t ha hu P w E Q h
  | inr y =>
   obtain ⟨b,e,hb⟩:=hy
   subst e
   refine wpAny_eqBool_tuple hu ha hb ?_
   rw [show decide (x=y)=decide ((Sum.inr x:Sum Key (List Key))=Sum.inr y) by simp]
   exact h
theorem xX:∀ (rest:List Value) (left:List (Sum Key (List Key))) (b:Array Int) (s:Shared) (R:Array Int->Shared->Prop),A.units<cLine->gB (bB P w) s.heap left rest ->
  (∀ b':Array Int,b'.toList=b.toList++left.map (oH (bB P w))->R b' { s with toks:=s.toks+(left.map jJ).sum }) ->
  wpAny (model P w) A (forIn rest b fun x r=>do
   let r' <- pyHash x
   pure (ForInStep.yield (r.push r'))) R E s
 | [],left,b,s,R,hu,t,k=>by
  cases t
  exact wpAny_pure (k b (by simp))
 | v::rest,left,b,s,R,hu,t,k=>by
  cases t with
  | @cons kk _ ks _ h1 h2 =>
   rw [List.forIn_cons]
   refine wpAny_bind (wpAny_bind (KN hu h1 (wpAny_pure ?_)))
   refine xX rest ks _ _ _ hu h2 fun b' e=>?_
   have:=k b' (by rw [e]; simp)
   simpa [Nat.add_assoc] using this
theorem KO {ks:List (Sum Key (List Key))} {a:Addr} {Q:Int->Shared->Prop} (hu:A.units+1<cLine) (hk:gC (bB P w) s.heap ks a) (h:Q (uM (bB P w) ks) { s with toks:=s.toks+lK ks }):wpAny (model P w) A (pyHash (.ref a)) Q E s:=by
 have hT:=hk.typeIs
 obtain ⟨o,its,n,ho,_,hd,hi⟩:=hk
 have sl:=F.slot_tuple_hash
 unfold pyHash pyHashByItsType
 wp_walk using wpAny_cRoomFor_or (.inr (by omega)),wpAny_specialOf hT sl.lookup,(wpAny_callSpecialIfBoundUnlessNone?_slot hT sl (wpAny_call_entry sl hT F.entry_tuple_hash ?_ (F.args_tuple_hash_1 _)))
 rw [hd]
 refine wpAny_pure (wpAny_pure (wpAny_bind ?_))
 rw [<- Array.forIn_toList]
 refine xX its.toList ks #[] s _ hu hi fun b eb=>?_
 dsimp only
 rw [eb,List.nil_append]
 unfold uM reduceHash at h
 refine wpAny_ret_mkInt ?_
 have e2:s.toks+(ks.map jJ).sum+1=s.toks+lK ks:=by unfold lK; omega
 show wpAny (model P w) A (pyHashByItsType.reduced _) Q E { s with toks:=s.toks+(ks.map jJ).sum+1 }
 rw [e2]
 unfold pyHashByItsType.reduced
 generalize Builtin.Tuple.tupleHashOf (ks.map (oH (bB P w)))=z at h ⊢
 by_cases hz:(decide (-(2 ^ 63:Int)<=z)&&decide (z<2 ^ 63))=true
 ·rw [if_pos hz] at h ⊢
  exact wpAny_pure h
 ·rw [if_neg hz] at h ⊢
  refine wpAny_bind (wpAny_rule ?_); exact wpAny_pure h
theorem eq_loop:∀ (x y:List (Sum Key (List Key))) (xs ys:List Value) (R:Option Fin×Unit->Shared->Prop),A.units<cLine->gB (bB P w) s.heap x xs->gB (bB P w) s.heap y ys ->
  (x≠y->R (some (.done (.ret (.bool false))),()) s)->((x=y↔xs.length=ys.length)->R (none,()) s) ->
  wpAny (model P w) A (forIn (xs.zip ys) ((none,()):Option Fin×Unit) fun p _=>do
   let c <- eqBool p.1 p.2
   if (!c)=true then do
    let q <- ret (Value.bool false)
    pure (ForInStep.done (some q,()))
   else pure (ForInStep.yield (none,()))) R E s
 | [],y,xs,ys,R,hu,hx,hy,k1,k2=>by
  cases hx
  refine wpAny_pure (k2 ?_)
  cases hy<;>simp
 | kx::x,[],xs,ys,R,hu,hx,hy,k1,k2=>by
  cases hx
  cases hy
  exact wpAny_pure (k2 (by simp))
 | kx::x,ky::y,xs,ys,R,hu,hx,hy,k1,k2=>by
  cases hx with
  | @cons _ u _ xs hx1 hx2 =>
   cases hy with
   | @cons _ v _ ys hy1 hy2 =>
    rw [List.zip_cons_cons,List.forIn_cons]
    refine wpAny_bind (wpAny_bind (TH hu hx1 hy1 ?_))
    by_cases hk:kx=ky
    ·subst hk
     rw [decide_eq_true rfl,if_neg (by decide)]
     refine wpAny_pure (eq_loop x y xs ys R hu hx2 hy2 (fun n=>k1 (by simpa using n)) fun e=>k2 ?_)
     simpa using e
    ·rw [decide_eq_false hk,if_pos (by decide)]
     exact wpAny_bind (wpAny_pure (wpAny_pure (wpAny_pure (k1 (by simp [hk])))))
theorem TJ {x y:List (Sum Key (List Key))} {a b:Addr} {Q:Bool->Shared->Prop} (hu:A.units+1<cLine) (hx:gC (bB P w) s.heap x a) (hy:gC (bB P w) s.heap y b) (h:Q (decide (x=y)) s):wpAny (model P w) A (eqBool (.ref a) (.ref b)) Q E s:=by
 have tx:=hx.typeIs
 have ty:=hy.typeIs
 have sl:=F.slot_tuple_eq
 by_cases hab:a=b
 ·subst hab
  rw [hx.inj hy,decide_eq_true rfl] at h
  exact SeqAt.EqAt.same _ P w E Q h
 ·obtain ⟨oa,xs,na,hoa,_,hda,hia⟩:=hx
  obtain ⟨oc,ys,nb,hob,_,hdb,hib⟩:=hy
  unfold eqBool
  rw [if_neg (by simpa using hab)]
  have hu0:A.units<cLine:=by omega
  apply wpAny_holding; apply wpAny_bind
  refine (wpAny_richCompare_same_room (op:=.Eq) tx ty sl (wpAny_call_entry sl tx F.entry_tuple_eq ?_ (F.args_tuple_eq_2 _ _)) hu0)
  unfold Builtin.«tuple.__eq__»
  wp_walk using wpAny_isInstance ty isSubtype_tuple_tuple,wpAny_tupleItemsOf hoa hda,wpAny_tupleItemsOf hob hdb
  refine eq_loop x y xs.toList ys.toList _ hu hia hib (fun n=>?_) fun e=>?_
  ·rw [decide_eq_false n] at h
   exact wpAny_pure ⟨_,rfl,(fun z=>nomatch z),wpAny_truthy_bool h⟩
  ·refine wpAny_pure ⟨_,rfl,(fun z=>nomatch z),?_⟩
   have e2:(xs.size == ys.size)=decide (x=y):=by
    by_cases q:x=y
    ·rw [decide_eq_true q]; simpa using e.1 q
    ·rw [decide_eq_false q]; simpa using fun z=>q (e.2 z)
   show wpAny (model P w) A (truthOfDropped (.bool (xs.size == ys.size))) Q E s
   rw [e2]
   exact wpAny_truthy_bool h
theorem uO {d:Nat}:∀ (vs:List Value) (R:Option Bool×Unit->Shared->Prop),(∀ v∈vs,∀ Q:Bool->Shared->Prop,Q true s->wpAny (model P w) A (eqIsQuiet d v) Q E s)->R (none,()) s ->
  wpAny (model P w) A (forIn vs ((none,()):Option Bool×Unit) fun y _=>do
   let c <- eqIsQuiet d y
   if (!c)=true then pure (ForInStep.done (some false,()))
   else pure (ForInStep.yield (none,()))) R E s
 | [],R,hq,k=>wpAny_pure k
 | v::vs,R,hq,k=>by
  rw [List.forIn_cons]
  refine wpAny_bind (wpAny_bind (hq v List.mem_cons_self _ ?_))
  rw [if_neg (by decide)]
  exact wpAny_pure (uO vs R (fun u hu=>hq u (List.mem_cons_of_mem _ hu)) k)
theorem xZ {d:Nat} {a:Addr} {o:Obj} {xs:Array Value} {n:Nat} {Q:Bool->Shared->Prop} (tx:s.TypeIs (Value.ref a) "tuple") (ho:s.heap.get? a=some o) (hd:o.data=.seq xs n) (hq:∀ v∈xs.toList,∀ Q:Bool->Shared->Prop,Q true s->wpAny (model P w) A (eqIsQuiet d v) Q E s) (h:Q true s) :
  wpAny (model P w) A (eqIsQuiet (d+1) (.ref a)) Q E s:=by
 have sl:=F.slot_tuple_eq
 unfold eqIsQuiet
 refine wpAny_bind (wpAny_specialOf tx sl.lookup ?_)
 show wpAny (model P w) A (isInstance (.ref a) (.type "tuple") >>= _) _ _ s
 refine wpAny_bind (wpAny_isInstance tx isSubtype_tuple_tuple ?_)
 rw [if_neg (by decide)]
 dsimp only
 refine wpAny_bind (wpAny_seqItems ho hd (wpAny_bind ?_))
 show wpAny _ _ (forIn xs _ _) _ _ s
 rw [<- Array.forIn_toList]
 exact uO xs.toList _ hq (wpAny_pure h)
theorem FD {x:List (Sum Key (List Key))} {a:Addr} {Q:Bool->Shared->Prop} (hx:gC (bB P w) s.heap x a) (h:Q true s):wpAny (model P w) A (eqIsQuiet 8 (.ref a)) Q E s:=by
 have tx:=hx.typeIs
 obtain ⟨o,xs,n,ho,_,hd,hi⟩:=hx
 refine xZ (d:=7) tx ho hd ?_ h
 have go:∀ {ks:List (Sum Key (List Key))} {vs:List Value},gB (bB P w) s.heap ks vs -> ∀ v∈vs,∀ Q:Bool->Shared->Prop,Q true s->wpAny (model P w) A (eqIsQuiet 7 v) Q E s:=by
  intro ks vs t
  induction t with
  | nil=>intro v hv; cases hv
  | @cons k v ks vs h1 _ ih =>
   intro u hu Q k0
   rcases List.mem_cons.1 hu with e | hu
   ·subst e
    cases k with
    | inl k =>
     rw [eqIsQuiet_byValue _ ((bB P w).byValue _ _ h1)]
     exact wpAny_pure k0
    | inr k =>
     obtain ⟨b,e,hb⟩:=h1
     subst e
     have tb:=hb.typeIs
     obtain ⟨o',xs',n',ho',_,hd',hi'⟩:=hb
     refine xZ (d:=6) tb ho' hd' (fun v' hv' Q' k'=>?_) k0
     rw [eqIsQuiet_byValue _ (hi'.byValue v' hv')]
     exact wpAny_pure k'
   ·exact ih u hu Q k0
 exact go hi
noncomputable def OL (P:Program) (w:World):HeapKind P w (List (Sum Key (List Key))) where
 is:=gC (bB P w)
 hash:=uM (bB P w)
 draws:=lK
 room:=fun A=>A.units+1<cLine
 inj:=fun hx hy=>hx.inj hy
 keeps:=fun x ho he hs=>x.keeps ho he hs
 pyHash:=fun hu hk h=>KO hu hk h
 eqBool:=fun hu hx hy h=>TJ hu hx hy h
 quiet:=fun hk h=>FD hk h
end
end L2
namespace L2
open PySem PySem.Spec PyProof.Rows
inductive V where
 | non | bl (b:Bool) | int (i:Int) | str (x:Str) | KP (b:Array UInt8) | flt (b:UInt64) | ref (a:Addr) | ty (n:String)
 deriving DecidableEq
noncomputable def RelV:V->Value->Prop
 | .non,u=>u=Value.none
 | .bl b,u=>u=Value.bool b
 | .int i,u=>∃ t,u=Value.int i t
 | .str x,u=>∃ t,u=Value.str x t
 | .KP b,u=>∃ t,u=Value.bytes b t
 | .flt b,u=>∃ t,u=Value.float b t
 | .ref a,u=>u=Value.ref a
 | .ty n,u=>u=Value.type n
noncomputable abbrev Vals:List V->List Value->Prop:=Paired RelV
theorem Vals.length {xs:List V} {us:List Value} (r:Vals xs us):xs.length=us.length:=Paired.length r
theorem Vals.get:∀ {xs:List V} {us:List Value} {i:Nat} {x:V},Vals xs us->xs[i]? = some x -> ∃ u,us[i]? = some u/\RelV x u
 | _,_,_,_,.nil,e=>by simp at e
 | _,_,0,_,.cons r _,e=>by simp at e; subst e; exact ⟨_,rfl,r⟩
 | _,_,i+1,x,.cons _ t,e=>by
  obtain ⟨u,h1,h2⟩:=Vals.get (i:=i) (x:=x) t (by simpa using e)
  exact ⟨u,by simpa using h1,h2⟩
theorem Vals.append:∀ {xs ys:List V} {us ws:List Value},Vals xs us->Vals ys ws->Vals (xs++ys) (us++ws)
 | _,_,_,_,.nil,s=>s
 | _,_,_,_,.cons r t,s=>.cons r (Vals.append t s)
theorem Vals.take:∀ {xs:List V} {us:List Value} (n:Nat),Vals xs us->Vals (xs.take n) (us.take n)
 | _,_,0,_=>.nil
 | _,_,_+1,.nil=>.nil
 | _,_,n+1,.cons r t=>.cons r (Vals.take n t)
theorem Vals.drop:∀ {xs:List V} {us:List Value} (n:Nat),Vals xs us->Vals (xs.drop n) (us.drop n)
 | _,_,0,r=>r
 | _,_,_+1,.nil=>.nil
 | _,_,n+1,.cons _ t=>Vals.drop n t
noncomputable def nG:Option V->Option Value->Prop
 | some v,some u=>RelV v u
 | none,none=>True
 | _,_=>False
noncomputable def KV {κ:Type}:List (κ×V)->List (κ×Value)->Prop:=Paired fun (p:κ×V) (q:κ×Value)=>p.1=q.1/\RelV p.2 q.2
noncomputable def kV:Key->V
 | .inl i=>.int i
 | .inr x=>.str x
inductive HO where
 | lst (xs:List V)
 | tup (xs:List V)
 | dK (kvs:List (Key×V)) | dT (kvs:List (List Key×V))
 | dX (o:Obj) (kvs:List (KX×V×V))
 | set (S:Int->Bool) (n:Nat)
 | ins (C dx:Addr) (fs:List (Str×V))
 | own (x:Addr)
 | xd (fs:List (Str×V))
 | met (f x:Addr)
 | rng (lo hi:Int)
 | uP (o:Obj) (u:HO)
 | IJ (q:Str)
 | ext (φ:Heap->Prop)
noncomputable abbrev Hp:=Addr->Option HO
noncomputable def upd (H:Hp) (a:Addr) (o:HO):Hp:=fun b=>if b=a then some o else H b
theorem aS {H:Hp} {a:Addr} {o:HO}:upd H a o a=some o:=by unfold upd; rw [if_pos rfl]
theorem aO {H:Hp} {a b:Addr} {o:HO} (h:b≠a):upd H a o b=H b:=by unfold upd; rw [if_neg h]
theorem aBK {H:Hp} {a b:Addr} {o u:HO} (h:H a=some o) (h':H b=some u) (d:o≠u):a≠b:=by
 intro e; subst e; rw [h] at h'; exact d (Option.some.inj h')
theorem bI {H:Hp} {a b:Addr} {o:HO} (h:H a=some o) (h':H b=none):a≠b:=by
 intro e; subst e; rw [h] at h'; cases h'
noncomputable def YA (H:Hp):Sum Key (List Key)->V->Prop
 | .inl k,v=>v=kV k
 | .inr ks,v=>∃ b,v=.ref b/\H b=some (.tup (ks.map kV))
noncomputable def qF (H:Hp) (ks:N1) (a:Addr):Prop:=∃ vs,H a=some (.tup vs)/\Paired (YA H) ks vs
noncomputable def TK (P:Program) (w:World) (H:Hp) (o:Obj) (kvs:List (KX×V×V)):Prop:=o.ExactDict /\ ∃ es ep,o.data=.dict es ep /\
 ((∃ vs:List (Key×Value),Paired (fun (p:KX×V×V) (q:Key×Value)=>p.1=.inl q.1/\p.2.1=kV q.1/\RelV p.2.2 q.2) kvs vs/\KeysOf (bB P w) es/\Pairs (bB P w) es.toList vs/\(vs.map (·.1)).Nodup) \/
  ∃ xs:List (N1×Addr×Value),Paired (fun (p:KX×V×V) (q:N1×Addr×Value)=>p.1=.inr q.1/\p.2.1=.ref q.2.1/\qF H q.1 q.2.1/\RelV p.2.2 q.2.2) kvs xs/\es.toList=xs.map (entryOfKey (OL P w))/\(xs.map (·.1)).Nodup)
theorem Paired.YB {α β:Type} {F G:α->β->Prop}:∀ {l₁:List α} {l₂:List β},Paired F l₁ l₂->(∀ a b,F a b->G a b)->Paired G l₁ l₂
 | _,_,.nil,_=>.nil
 | _,_,.cons r t,f=>.cons (f _ _ r) (Paired.YB t f)
theorem qF.stay {H H':Hp} {ks:N1} {a:Addr} (h:qF H ks a) (ht:∀ b xs,H b=some (.tup xs)->H' b=some (.tup xs)):qF H' ks a:=by
 obtain ⟨vs,e,r⟩:=h
 refine ⟨vs,ht _ _ e,Paired.YB r fun k v q=>?_⟩
 cases k with
 | inl k=>exact q
 | inr k=>obtain ⟨b,e,q⟩:=q; exact ⟨b,e,ht _ _ q⟩
theorem TK.stay {P:Program} {w:World} {H H':Hp} {o:Obj} {kvs:List (KX×V×V)} (h:TK P w H o kvs) (ht:∀ b xs,H b=some (.tup xs)->H' b=some (.tup xs)):TK P w H' o kvs:=by
 obtain ⟨x,es,ep,e,h⟩:=h
 refine ⟨x,es,ep,e,?_⟩
 rcases h with h | ⟨xs,r,h1,h2⟩
 ·exact .inl h
 ·exact .inr ⟨xs,Paired.YB r fun p q z=>⟨z.1,z.2.1,z.2.2.1.stay ht,z.2.2.2⟩,h1,h2⟩
noncomputable def CI (h:Heap) (a:Addr):Prop:=∀ o,h.get? a=some o->o.dict=none
theorem CI.at {h h':Heap} {a:Addr} {o:Obj} (n:CI h a) (e:h.get? a=some o) (e':h'.get? a=some o):CI h' a:=fun u q=>by rw [e'] at q; cases q; exact n _ e
theorem CI.new (h:Heap) (its:Array Value) {n:Nat}:CI (h.push { cls:=.type "tuple",data:=.seq its n }) h.objs.size:=fun u q=>by
 rw [Heap.get?_push_size h rfl] at q; cases q; rfl
theorem CI.is {h:Heap} {a:Addr} {o:Obj} (e:h.get? a=some o) (d:o.dict=none):CI h a:=fun u q=>by rw [e] at q; cases q; exact d
noncomputable abbrev YC (oc:Obj):HO:=.uP oc (.ext fun _=>True)
noncomputable def IK (H:Hp) (q:Str) (ps:Array Value):Prop:=TriplesOk ps.toList /\
 ∀ pos cv,codeAmong pos ps.toList=some cv -> ∃ c oc vs t,cv=.ref c/\H c=some (YC oc)/\oc.data=.fields vs/\vs[1]? = some (.str q t)
theorem IK.stay {H H':Hp} {q:Str} {ps:Array Value} (h:IK H q ps) (hf:∀ b o u,H b=some (.uP o u)->H' b=some (.uP o u)):IK H' q ps :=
 ⟨h.1,fun pos cv e=>let ⟨c,oc,vs,t,e1,e2,e3⟩:=h.2 pos cv e; ⟨c,oc,vs,t,e1,hf _ _ _ e2,e3⟩⟩
section
variable (P:Program) (w:World)
noncomputable def dA (H:Hp) (h:Heap) (a:Addr):HO->Prop
 | .lst xs=>xs.length<=sizeLine /\ ∃ (its:List Value) (n:Nat),Vals xs its/\h.get? a=some { cls:=.type "list",data:=.seq its.toArray n }
 | .tup xs=>xs.length<=sizeLine /\ ∃ its:List Value,Vals xs its/\IsTup h a its.toArray/\CI h a
 | .dK kvs=>kvs.length<=sizeLine/\(a == sysModules)=false /\ ∃ vs,KV kvs vs/\h.DictOf (bB P w) a vs
 | .dT kvs=>kvs.length<=sizeLine/\(a == sysModules)=false /\ ∃ xs:List (List Key×Addr×Value),
   Paired (fun (p:List Key×V) (q:List Key×Addr×Value)=>p.1=q.1/\H q.2.1=some (.tup (p.1.map kV))/\RelV p.2 q.2.2) kvs xs /\
   ∃ o es ep,h.get? a=some o/\o.ExactDict/\o.data=.dict es ep/\es.toList=xs.map (entryOfKey (tupleKind (bB P w)))/\(xs.map (·.1)).Nodup
 | .dX o kvs=>kvs.length<=sizeLine/\(a == sysModules)=false/\h.get? a=some o/\TK P w H o kvs
 | .set S n=>h.SetOf (intKind P w) a S n
 | .ins C dx fs=>H dx=some (.own a)/\fs.length<=1000/\dx≠a/\h.get? a=some (PySem.W.instObj C dx) /\
   ∃ mA,h.Ns1 dx mA/\(∀ f,nG (fs.lookup f) (mA f))/\PySem.Within mA (fs.map (·.1))
 | .own _=>∃ o,h.get? a=some o
 | .xd fs=>∃ mA,h.Ns1 a mA /\ ∀ f,nG (fs.lookup f) (mA f)
 | .rng lo hi=>∃ t u v,h.get? a=some { cls:=.type "range",data:=.fields #[.int lo t,.int hi u,.int 1 v] }
 | .uP o u=>h.get? a=some o/\dA H h a u
 | .IJ q=>∃ ps:Array Value,h.get? a=some { cls:=.none,data:=.fields ps }/\IK H q ps
 | .met f x=>h.get? a=some (PySem.W.methodObj (.ref f) (.ref x))
 | .ext φ=>φ h/\(∃ o,h.get? a=some o) /\ ∀ h1 h2:Heap,φ h1->(∀ o,h1.get? a=some o->h2.get? a=some o)->φ h2
noncomputable def nH (H:Hp) (h:Heap):Prop:=∀ a o,H a=some o->dA P w H h a o
end
section
variable {P:Program} {w:World} {H H':Hp} {h h':Heap} {a:Addr} {o:HO}
theorem dA.lt (x:dA P w H h a o):a<h.objs.size:=by
 cases o with
 | lst xs=>obtain ⟨_,_,_,_,e⟩:=x; exact Heap.lt_size e
 | tup xs=>obtain ⟨_,_,_,p,_⟩:=x; exact p.lt
 | dK kvs=>obtain ⟨_,_,_,_,o,_,_,e,_⟩:=x; exact Heap.lt_size e
 | dT kvs=>obtain ⟨_,_,_,_,o,_,_,e,_⟩:=x; exact Heap.lt_size e
 | dX ob kvs=>obtain ⟨_,_,e,_⟩:=x; exact Heap.lt_size e
 | set S n=>obtain ⟨o,_,_,_,e,_⟩:=x; exact Heap.lt_size e
 | ins C dx fs=>obtain ⟨_,_,_,e,_⟩:=x; exact Heap.lt_size e
 | own y=>obtain ⟨_,e⟩:=x; exact Heap.lt_size e
 | xd fs=>obtain ⟨_,⟨_,_,_,e,_⟩,_⟩:=x; exact Heap.lt_size e
 | rng lo hi=>obtain ⟨_,_,_,e⟩:=x; exact Heap.lt_size e
 | uP ob u=>obtain ⟨e,_⟩:=x; exact Heap.lt_size e
 | IJ q=>obtain ⟨ps,e,_⟩:=x; exact Heap.lt_size e
 | met f y=>exact Heap.lt_size (show h.get? a=some _ from x)
 | ext φ=>obtain ⟨_,⟨_,e⟩,_⟩:=x; exact Heap.lt_size e
theorem Paired.YD {α β:Type} {F G:α->β->Prop}:∀ {l₁:List α} {l₂:List β},Paired F l₁ l₂->(∀ a b,F a b->G a b)->Paired G l₁ l₂
 | _,_,.nil,_=>.nil
 | _,_,.cons r t,f=>.cons (f _ _ r) (Paired.YD t f)
theorem dA.stay (x:dA P w H h a o) (k:∀ b u,(b=a\/H b=some (.own a))->h.get? b=some u->h'.get? b=some u)
  (ho:∀ b,H b=some (.own a)->H' b=some (.own a)) (ht:∀ b xs,H b=some (.tup xs)->H' b=some (.tup xs)) (hf:∀ b o u,H b=some (.uP o u)->H' b=some (.uP o u):=by exact fun _ _ _ q=>q):dA P w H' h' a o:=by
 induction o with
 | lst xs=>obtain ⟨z,its,n,r,e⟩:=x; exact ⟨z,its,n,r,k _ _ (.inl rfl) e⟩
 | tup xs=>obtain ⟨z,its,r,⟨ob,e,c⟩,nd⟩:=x; exact ⟨z,its,r,⟨ob,k _ _ (.inl rfl) e,c⟩,nd.at e (k _ _ (.inl rfl) e)⟩
 | dK kvs=>obtain ⟨z,y,vs,r,ob,es,ep,e,c⟩:=x; exact ⟨z,y,vs,r,ob,es,ep,k _ _ (.inl rfl) e,c⟩
 | dT kvs =>
  obtain ⟨z,y,xs,r,ob,es,ep,e,c⟩:=x
  exact ⟨z,y,xs,Paired.YD r fun p q z=>⟨z.1,ht _ _ z.2.1,z.2.2⟩,ob,es,ep,k _ _ (.inl rfl) e,c⟩
 | dX ob kvs=>obtain ⟨z,y,e,c⟩:=x; exact ⟨z,y,k _ _ (.inl rfl) e,c.stay ht⟩
 | set S n=>obtain ⟨ob,es,ep,t,e,c⟩:=x; exact ⟨ob,es,ep,t,k _ _ (.inl rfl) e,c⟩
 | ins C dx fs =>
  obtain ⟨d,z,ne,e,mA,⟨od,es,ep,e2,c⟩,r⟩:=x
  exact ⟨ho _ d,z,ne,k _ _ (.inl rfl) e,mA,⟨od,es,ep,k _ _ (.inr d) e2,c⟩,r⟩
 | own y=>obtain ⟨ob,e⟩:=x; exact ⟨ob,k _ _ (.inl rfl) e⟩
 | xd fs=>obtain ⟨mA,⟨od,es,ep,e,c⟩,r⟩:=x; exact ⟨mA,⟨od,es,ep,k _ _ (.inl rfl) e,c⟩,r⟩
 | rng lo hi=>obtain ⟨t,u,v,e⟩:=x; exact ⟨t,u,v,k _ _ (.inl rfl) e⟩
 | uP ob u ih=>obtain ⟨e,q⟩:=x; exact ⟨k _ _ (.inl rfl) e,ih q⟩
 | IJ q=>obtain ⟨ps,e,r⟩:=x; exact ⟨ps,k a _ (.inl rfl) e,r.stay hf⟩
 | met f y =>
  have e:h.get? a=some (PySem.W.methodObj (.ref f) (.ref y)):=x
  show h'.get? a=some (PySem.W.methodObj (.ref f) (.ref y))
  exact k a _ (.inl rfl) e
 | ext φ=>obtain ⟨p,⟨o,e⟩,st⟩:=x; exact ⟨st _ _ p fun o q=>k _ _ (.inl rfl) q,⟨o,k _ _ (.inl rfl) e⟩,st⟩
theorem nH.lt (x:nH P w H h) (e:H a=some o):a<h.objs.size:=(x a o e).lt
theorem nH.fresh (x:nH P w H h) (e:h.objs.size<=a):H a=none:=by
 cases q:H a with
 | none=>rfl
 | some u=>exact absurd (Nat.lt_of_lt_of_le (x.lt q) e) (Nat.lt_irrefl _)
theorem nH.kept (x:nH P w H h) (k:∀ b u,h.get? b=some u->h'.get? b=some u):nH P w H h':=fun a o e =>
 (x a o e).stay (fun b u _ q=>k b u q) (fun _ q=>q) fun _ _ q=>q
theorem nH.laid (x:nH P w H h) (k:∀ b u,h.get? b=some u->h'.get? b=some u) (hp:h.objs.size<=a) (new:dA P w (upd H a o) h' a o):nH P w (upd H a o) h':=fun b u e=>by
 have hn:=x.fresh hp
 by_cases hb:b=a
 ·subst hb; rw [aS] at e; cases e; exact new
 ·rw [aO hb] at e
  exact (x b u e).stay (fun c v _ q=>k c v q) (fun c q=>by rw [aO (bI q hn)]; exact q) (fun c xs q=>by rw [aO (bI q hn)]; exact q) fun c o u q=>by rw [aO (bI q hn)]; exact q
end
noncomputable def Rd (H:Hp) (a:Addr) (u:HO):Prop:=H a=some u \/ ∃ o,H a=some (.uP o u)
theorem Rd.ok {P:Program} {w:World} {H:Hp} {h:Heap} {a:Addr} {u:HO} (r:Rd H a u) (x:nH P w H h):dA P w H h a u:=by
 rcases r with r | ⟨o,r⟩
 ·exact x a u r
 ·obtain ⟨_,q⟩:=x a _ r
  exact q
noncomputable def Mut:Option HO->Prop
 | some (.lst _)=>True
 | some (.dK _)=>True
 | some (.dT _)=>True
 | some (.dX _ _)=>True
 | some (.set _ _)=>True
 | some (.ins _ _ _)=>True
 | some (.ext _)=>True
 | _=>False
section
variable {P:Program} {w:World} {H:Hp} {h h':Heap} {x e:Addr} {o':HO}
theorem nH.write (ok:nH P w H h) (mu:Mut (H x)) (he:e=x\/H e=some (.own x)) (k:∀ b u,b≠e->h.get? b=some u->h'.get? b=some u) (heo:∃ u,h'.get? e=some u)
  (new:dA P w (upd H x o') h' x o'):nH P w (upd H x o') h':=fun b u q=>by
 have aBM:∀ c y,H c=some (.own y)->c≠x:=fun c y r z=>by subst z; rw [r] at mu; exact mu
 have aEn:∀ c xs,H c=some (.tup xs)->c≠x:=fun c xs r z=>by subst z; rw [r] at mu; exact mu
 by_cases hb:b=x
 ·subst hb; rw [aS] at q; cases q; exact new
 ·rw [aO hb] at q
  by_cases hbe:b=e
  ·have q':H b=some (.own x):=by
    rcases he with z | z
    ·exact absurd (hbe.trans z) hb
    ·rw [hbe]; exact z
   rw [q] at q'; cases q'
   obtain ⟨v,hv⟩:=heo
   exact ⟨v,by rw [hbe]; exact hv⟩
  ·refine (ok b u q).stay (fun c v hc r=>k c v ?_ r) (fun c r=>by rw [aO (aBM c b r)]; exact r) (fun c xs r=>by rw [aO (aEn c xs r)]; exact r) fun c o u r=>by rw [aO fun z=>by subst z; rw [r] at mu; exact mu]; exact r
   rcases hc with rfl | hc
   ·exact hbe
   ·rintro rfl
    rcases he with z | z
    ·exact aBM c b hc z
    ·rw [hc] at z; cases z; exact hb rfl
end
structure Un (fs ex:List Addr) (H H':Hp) (h h':Heap):Prop where
 keep:∀ b o,h.get? b=some o->H b=none->b∉fs->b∉ex->h'.get? b=some o
 slot:∀ b o,h.get? b=some o->H b=none->b∈fs->b∉ex -> ∃ sl,h'.get? b=some { o with slots:=sl }
 free:∀ b o,h.get? b=some o->H b=none->b∉ex->H' b=none
 there:∀ b o,h.get? b=some o->b∉ex -> ∃ o',h'.get? b=some o'
 tups:∀ b xs,H b=some (.tup xs)->H' b=some (.tup xs)
 oI:∀ b o u,H b=some (.uP o u)->H' b=some (.uP o u)
 nI:∀ b q,H b=some (.IJ q)->H' b=some (.IJ q)
section
variable {fs fs' ex ex':List Addr} {H H1 H2:Hp} {h h1 h2 h':Heap} {a x e:Addr} {o:HO}
theorem Un.any (u:Un fs ex H H1 h h1) {b:Addr} {ob:Obj} (q:h.get? b=some ob) (n:H b=none) (hx:b∉ex):∃ sl,h1.get? b=some { ob with slots:=sl }:=by
 by_cases hb:b∈fs
 ·exact u.slot b ob q n hb hx
 ·exact ⟨ob.slots,u.keep b ob q n hb hx⟩
theorem Un.trans (a:Un fs ex H H1 h h1) (b:Un fs ex H1 H2 h1 h2):Un fs ex H H2 h h2 where
 keep:=fun c ob q n hc hx=>b.keep c ob (a.keep c ob q n hc hx) (a.free c ob q n hx) hc hx
 slot:=fun c ob q n hc hx=>by
  obtain ⟨sl,e1⟩:=a.slot c ob q n hc hx
  obtain ⟨sl',e2⟩:=b.slot c _ e1 (a.free c ob q n hx) hc hx
  exact ⟨sl',e2⟩
 free:=fun c ob q n hx=>by
  obtain ⟨o',e1⟩:=a.there c ob q hx
  exact b.free c o' e1 (a.free c ob q n hx) hx
 there:=fun c ob q hx=>by
  obtain ⟨o',e1⟩:=a.there c ob q hx
  exact b.there c o' e1 hx
 tups:=fun c xs q=>b.tups c xs (a.tups c xs q)
 oI:=fun c ob xs q=>b.oI c ob xs (a.oI c ob xs q)
 nI:=fun c ps q=>b.nI c ps (a.nI c ps q)
theorem Un.kept (k:∀ b u,h.get? b=some u->h'.get? b=some u):Un fs ex H H h h' :=
 ⟨fun b ob q _ _ _=>k b ob q,fun b ob q _ _ _=>⟨ob.slots,k b ob q⟩,fun _ _ _ n _=>n,fun b ob q _=>⟨ob,k b ob q⟩,fun _ _ q=>q,fun _ _ _ q=>q,fun _ ps q=>q⟩
theorem Un.refl:Un fs ex H H h h:=Un.kept fun _ _ q=>q
theorem Un.laid (k:∀ b u,h.get? b=some u->h'.get? b=some u) (hp:h.objs.size<=a) (hn:H a=none):Un fs ex H (upd H a o) h h' where
 keep:=fun b u q _ _ _=>k b u q
 slot:=fun b u q _ _ _=>⟨u.slots,k b u q⟩
 free:=fun b u q n _=>by rw [aO (Nat.ne_of_lt (Nat.lt_of_lt_of_le (Heap.lt_size q) hp))]; exact n
 there:=fun b u q _=>⟨u,k b u q⟩
 tups:=fun b xs q=>by rw [aO (bI q hn)]; exact q
 oI:=fun b u xs q=>by rw [aO (bI q hn)]; exact q
 nI:=fun b ps q=>by rw [aO (bI q hn),q]
theorem Un.write (mu:Mut (H x)) (he:e=x\/H e=some (.own x)) (k:∀ b u,b≠e->h.get? b=some u->h'.get? b=some u) (heo:∃ u,h'.get? e=some u):Un fs ex H (upd H x o) h h':=by
 have hx:∀ b,H b=none->b≠x:=fun b n z=>by subst z; rw [n] at mu; exact mu
 have hb:∀ b,H b=none->b≠e:=fun b n z=>by
  subst z
  rcases he with r | r
  ·exact hx b n r
  ·rw [n] at r; cases r
 have hm:∀ b u,H b=some u->¬ Mut (some u)->b≠x:=fun b u q nm z=>by subst z; rw [q] at mu; exact nm mu
 refine ⟨fun b u q n _ _=>k b u (hb b n) q,fun b u q n _ _=>⟨u.slots,k b u (hb b n) q⟩,fun b u q n _=>by rw [aO (hx b n)]; exact n,fun b u q _=>?_,
  fun b xs q=>by rw [aO (hm b _ q fun z=>z)]; exact q,fun b u xs q=>by rw [aO (hm b _ q fun z=>z)]; exact q,fun b ps q=>by rw [aO (hm b _ q fun z=>z),q]⟩
 by_cases hbe:b=e
 ·subst hbe; exact heo
 ·exact ⟨u,k b u hbe q⟩
end
noncomputable def trk (h:Heap) (H:Hp):List Addr:=(List.range h.objs.size).filter fun a=>(H a).isSome
noncomputable def wW (h:Heap) (H:Hp):Heap:=PySem.W.hideAll h (trk h H)
theorem KQ (h:Heap) (H:Hp):(wW h H).objs.size=h.objs.size:=PySem.W.hideAll_size _ _
theorem OM {h:Heap} {H:Hp} {b:Addr} {o:Obj} (e:h.get? b=some o) (n:H b=none):(wW h H).get? b=some o :=
 PySem.W.hideAll_get _ e fun hm=>by
  have q:(H b).isSome=true:=(List.mem_filter.mp hm).2
  rw [n] at q; simp at q
theorem TL {h:Heap} {H:Hp} {b:Addr} {o:Obj} (e:(wW h H).get? b=some o):h.get? b=some o/\H b=none:=by
 have e':h.get? b=some o:=PySem.W.of_hideAll (trk h H) e
 refine ⟨e',?_⟩
 cases q:H b with
 | none=>rfl
 | some x =>
  have hm:b∈trk h H:=List.mem_filter.mpr ⟨List.mem_range.mpr (Heap.lt_size e'),by simp [q]⟩
  have z:(wW h H).get? b=none:=PySem.W.hideAll_none (trk h H) hm
  rw [z] at e; cases e
end L2
namespace L2
open PySem PySem.Spec PyProof.Rows
structure Mod (K:PySem.W.Frag) (mg:Str->Option Value) (base:Heap):Prop where
 kin:K.In base
 glob:base.Ns mainGlobals mg
 blt:∃ mb,base.Ns builtinsNs mb /\ ∀ x:Str,x ≠ "__name__" -> mb x=bootBuiltins x
 nolimit:base.NoLimit
 bm:∃ bm ob,mg "__builtins__" = some (.ref bm)/\bm≠builtinsNs/\base.get? bm=some ob/\ob.cls=.type "module" /\ ob.dict=some builtinsNs/\ob.data=.plain
noncomputable def ON:List Str:=["going_of", "count_of_chain", "cut_paper", "downsets", "strictest_chains"]
noncomputable def TN (x:Str):Str:=x ++ ".<locals>.<lambda>"
noncomputable def eE (K:PySem.W.Frag):List (Str×Addr×Addr):=ON.filterMap fun x=>(PySem.W.tabIn K x).map fun p=>(x,p.1,p.2)
noncomputable def TQ (K:PySem.W.Frag) (base:Heap) (H:Hp):Prop:=∀ t∈eE K,PySem.W.CodeHd base t.2.1 t.2.2/\H t.2.2=some (.IJ (TN t.1))
structure Cx where
 prog:Program
 w:World
 K:PySem.W.Frag
 mg:Str->Option Value
 base:Heap
 A:Around
 N:List Str
 s₀:Shared
 H₀:Hp
 env:Env
 outer:List Env
 stack:List Env
 ex:List Addr
 fn:Str->Bool
 calm:Bool
 pn:List (Addr×Obj)
 xe:Value->Shared->Prop
noncomputable def frs (l:List Env):List Addr:=l.filterMap (·.frame)
noncomputable abbrev Cx.fs (X:Cx):List Addr:=frs X.outer
noncomputable def FE (sc:Scope) (x:Str):Prop:=sc.names.lookup x=some .local\/sc.names.lookup x=some .cell\/sc.names.lookup x=some .free
noncomputable def Loc (sc:Scope) (x:Str):Prop:=sc.names.lookup x=some .local\/sc.names.lookup x=some .cell
noncomputable def Look (env:Env) (h:Heap) (m:Str->Option Value) (x:Str) (u:Value):Prop :=
 (env.kindOf x=some .local/\m x=some u)\/((env.kindOf x=some .cell\/env.kindOf x=some .free) /\ ∃ c,env.cells.lookup x=some c/\h.IsCell c (some u))
structure Cx.Ok (X:Cx):Prop where
 mod:Mod X.K X.mg X.base
 kind:X.env.scope.kind=.function
 glob:X.env.globals=mainGlobals
 blt:X.env.builtins=builtinsNs
 above:X.s₀.heap.objs.size<=X.env.locals
 inj:∀ x y c,X.env.cells.lookup x=some c->X.env.cells.lookup y=some c->x=y
 has:∀ x,(X.env.kindOf x=some .cell\/X.env.kindOf x=some .free) -> ∃ c,X.env.cells.lookup x=some c
 cab:∀ x c,X.fn x=true->X.env.cells.lookup x=some c->X.s₀.heap.objs.size<=c
 hd:X.calm=true->X.A.handled=none
 frames:X.A.frames=some X.stack
 stk:X.stack=X.outer\/(X.stack=X.env::X.outer/\X.env.frame=some X.env.locals)
 exf:∀ b∈X.ex,b≠X.env.locals /\ ∀ x c,X.env.cells.lookup x=some c->c≠b
 bs:∀ b o,X.base.get? b=some o->X.s₀.heap.get? b=some o/\X.H₀ b=none
 TR:X.base.objs.size<=X.s₀.heap.objs.size
 OO:∀ b o,X.base.get? b=some o->b∉X.ex
 TU:∀ b∈X.ex,b∉X.fs
 sO:X.s₀.heap.FunFrames X.base X.outer
 frf:∀ b∈X.fs,X.H₀ b=none
 tab:TQ X.K X.base X.H₀
structure Inv (X:Cx) (pins:List (Addr×Obj)) (σ:List (Option V)) (H:Hp) (s:Shared):Prop where
 ok:X.Ok
 os:s.os=X.s₀.os
 bare:AllBare s.gens
 base:Un X.fs X.ex X.H₀ H X.s₀.heap s.heap
 loc:∃ m,s.heap.Ns X.env.locals m /\ ∀ (i:Nat) (x:Str) (v:V),X.N[i]? = some x->σ[i]? = some (some v)->FE X.env.scope x -> ∃ u,RelV v u/\Look X.env s.heap m x u
 cell:∀ x c,X.env.cells.lookup x=some c -> ∃ v,s.heap.IsCell c v
 free:H X.env.locals=none
 jK:∀ x c,X.env.cells.lookup x=some c->H c=none
 pin:∀ p∈X.pn++pins,s.heap.get? p.1=some p.2/\H p.1=none/\p.1≠X.env.locals/\p.1∉X.fs /\ ∀ v,p.2.data≠.cell v
 hok:nH X.prog X.w H s.heap
 len:σ.length=X.N.length
section
variable {X:Cx} {pins:List (Addr×Obj)} {σ:List (Option V)} {H H':Hp} {s:Shared} {h':Heap}
theorem Cx.Ok.aEo (ok:X.Ok) {b:Addr} {o:Obj} (e:X.base.get? b=some o):b∉X.fs:=fun hb=>by
 have:=(ok.sO.mem hb).1
 rw [e] at this; cases this
theorem Inv.bs (I:Inv X pins σ H s):∀ b o,X.base.get? b=some o->s.heap.get? b=some o/\H b=none:=fun b o e =>
 ⟨I.base.keep b o (I.ok.bs b o e).1 (I.ok.bs b o e).2 (I.ok.aEo e) (I.ok.OO b o e),I.base.free b o (I.ok.bs b o e).1 (I.ok.bs b o e).2 (I.ok.OO b o e)⟩
theorem Inv.bk (I:Inv X pins σ H s):∀ b o,X.base.get? b=some o->s.heap.get? b=some o:=fun b o e=>(I.bs b o e).1
theorem Inv.mod (I:Inv X pins σ H s):Mod X.K X.mg X.base:=I.ok.mod
theorem Inv.tab (I:Inv X pins σ H s):TQ X.K X.base H:=fun t ht=>⟨(I.ok.tab t ht).1,I.base.nI _ _ (I.ok.tab t ht).2⟩
theorem Inv.wM (I:Inv X pins σ H s):X.K.In s.heap:=I.ok.mod.kin.keeps I.bk
theorem Inv.fr (I:Inv X pins σ H s):∃ m,Fr X.base X.env.locals s.heap m :=
 let ⟨m,hn,_⟩:=I.loc
 ⟨m,hn,I.bk,Nat.le_trans I.ok.TR I.ok.above⟩
theorem Inv.lt (I:Inv X pins σ H s):X.env.locals<s.heap.objs.size:=let ⟨_,hn,_⟩:=I.loc; hn.lt
theorem Inv.sz (I:Inv X pins σ H s):X.s₀.heap.objs.size<=s.heap.objs.size:=Nat.le_trans I.ok.above (Nat.le_of_lt I.lt)
theorem Inv.aEp (I:Inv X pins σ H s) {a:Addr} (h:s.heap.objs.size<=a):a∉X.fs:=fun hb=>by
 obtain ⟨_,o,ho,_⟩:=I.ok.sO.mem hb
 exact absurd (Nat.lt_of_lt_of_le (Heap.lt_size ho) (Nat.le_trans I.sz h)) (Nat.lt_irrefl _)
theorem Inv.YE (I:Inv X pins σ H s):∀ x c,X.env.cells.lookup x=some c->c≠X.env.locals:=fun x c e z=>by
 obtain ⟨v,o,ho,hd⟩:=I.cell x c e
 obtain ⟨m,⟨o',es,ep,ho',hd',_⟩,_⟩:=I.loc
 rw [z,ho'] at ho; cases ho; rw [hd'] at hd; cases hd
theorem Inv.sO (I:Inv X pins σ H s):s.heap.FunFrames X.base X.outer:=by
 have all:∀ (l:List Env),(∀ b∈frs l,b∈X.fs)->X.s₀.heap.FunFrames X.base l->s.heap.FunFrames X.base l:=by
  intro l
  induction l with
  | nil=>intro _ _; trivial
  | cons env r ih =>
   intro hs hl
   obtain ⟨hk,⟨L,o,hf,hn,ho,hd⟩,hr⟩:=hl
   have hL:L∈X.fs:=hs L (by unfold frs; rw [List.filterMap_cons,hf]; exact List.mem_cons_self)
   obtain ⟨sl,e⟩:=I.base.slot L o ho (I.ok.frf L hL) hL fun z=>I.ok.TU L z hL
   exact ⟨hk,⟨L,_,hf,hn,e,hd⟩,ih (fun b hb=>hs b (by unfold frs; rw [List.filterMap_cons,hf]; exact List.mem_cons_of_mem _ hb)) hr⟩
 exact all X.outer (fun _ hb=>hb) I.ok.sO
theorem Inv.stack (I:Inv X pins σ H s):s.heap.FunFrames X.base X.stack:=by
 rcases I.ok.stk with e | ⟨e,hf⟩
 ·rw [e]; exact I.sO
 ·rw [e]
  obtain ⟨m,hn,_⟩:=I.loc
  refine .cons (by rw [I.ok.kind]; decide) hf hn ?_ I.sO
  exact Heap.get?_none_of_le (Nat.le_trans I.ok.TR I.ok.above)
theorem Inv.nJ (I:Inv X pins σ H s):∀ b∈frs X.stack,b∈X.env.locals::X.fs:=fun b hb=>by
 rcases I.ok.stk with e | ⟨e,hf⟩
 ·rw [e] at hb; exact List.mem_cons_of_mem _ hb
 ·rw [e] at hb
  unfold frs at hb
  rw [List.filterMap_cons,hf] at hb
  exact hb
theorem Inv.AE (I:Inv X pins σ H s):∀ b∈frs X.stack,H b=none:=fun b hb=>by
 rcases List.mem_cons.mp (I.nJ b hb) with e | hb
 ·rw [e]; exact I.free
 ·obtain ⟨_,o,ho,_⟩:=I.ok.sO.mem hb
  exact I.base.free b o ho (I.ok.frf b hb) fun z=>I.ok.TU b z hb
theorem Inv.step {g':Array GenState} {t':Nat} {d':Drawn} {ch:List Addr} (I:Inv X pins σ H s)
  (hch:∀ b∈ch,(b∈X.ex\/X.s₀.heap.objs.size<=b)/\b≠X.env.locals/\(∀ x c,X.env.cells.lookup x=some c->c≠b) /\ ∀ p∈X.pn++pins,p.1≠b)
  (keep:∀ b o,b≠X.env.locals->b∉X.fs->b∉ch->s.heap.get? b=some o->H b=none->h'.get? b=some o)
  (slot:∀ b o,b≠X.env.locals->b∈X.fs->b∉ch->s.heap.get? b=some o->H b=none -> ∃ sl,h'.get? b=some { o with slots:=sl }) (free:∀ b o,b∉ch->s.heap.get? b=some o->H b=none->H' b=none)
  (there:∀ b o,b∉ch->s.heap.get? b=some o -> ∃ o',h'.get? b=some o')
  (tups:∀ b xs,H b=some (.tup xs)->H' b=some (.tup xs)) (oI:∀ b o u,H b=some (.uP o u)->H' b=some (.uP o u)) (nI:∀ b q,H b=some (.IJ q)->H' b=some (.IJ q))
  (ns:∀ m,s.heap.Ns X.env.locals m->h'.Ns X.env.locals m) (hok:nH X.prog X.w H' h') (hg:AllBare g') :
  Inv X pins σ H' { s with heap:=h',gens:=g',drawn:=d',toks:=t' }:=by
 have neL:∀ b o,X.s₀.heap.get? b=some o->b≠X.env.locals:=fun b o e=>Nat.ne_of_lt (Nat.lt_of_lt_of_le (Heap.lt_size e) I.ok.above)
 have neC:∀ b o,X.s₀.heap.get? b=some o->b∉X.ex->b∉ch:=fun b o e hx hb=>by
  rcases (hch b hb).1 with z | z
  ·exact hx z
  ·exact absurd (Nat.lt_of_lt_of_le (Heap.lt_size e) z) (Nat.lt_irrefl _)
 have cellK:∀ x c,X.env.cells.lookup x=some c -> ∀ v,s.heap.IsCell c v->h'.IsCell c v:=fun x c e v hq0=>by
  obtain ⟨o,ho,hd⟩:=hq0
  have nch:c∉ch:=fun z=>(hch c z).2.2.1 x c e rfl
  by_cases hc:c∈X.fs
  ·obtain ⟨sl,q⟩:=slot c o (I.YE x c e) hc nch ho (I.jK x c e)
   exact ⟨_,q,hd⟩
  ·exact ⟨o,keep c o (I.YE x c e) hc nch ho (I.jK x c e),hd⟩
 refine ⟨I.ok,I.os,hg,⟨fun b o e n hb hx=>?_,fun b o e n hb hx=>?_,fun b o e n hx=>?_,fun b o e hx=>?_,fun b xs e=>tups b xs (I.base.tups b xs e),fun b o xs e=>oI b o xs (I.base.oI b o xs e),fun b ps e=>nI b ps (I.base.nI b ps e)⟩,?_,fun x c e=>?_,?_,fun x c e=>?_,fun p hp=>?_,hok,I.len⟩
 ·exact keep b o (neL b o e) hb (neC b o e hx) (I.base.keep b o e n hb hx) (I.base.free b o e n hx)
 ·obtain ⟨sl,e1⟩:=I.base.slot b o e n hb hx
  obtain ⟨sl',e2⟩:=slot b _ (neL b o e) hb (neC b o e hx) e1 (I.base.free b o e n hx)
  exact ⟨sl',e2⟩
 ·obtain ⟨o',e1⟩:=I.base.there b o e hx
  exact free b o' (neC b o e hx) e1 (I.base.free b o e n hx)
 ·obtain ⟨o',e1⟩:=I.base.there b o e hx
  exact there b o' (neC b o e hx) e1
 ·obtain ⟨m,hn,hl⟩:=I.loc
  refine ⟨m,ns m hn,fun i x v e1 e2 e3=>?_⟩
  obtain ⟨u,r,l⟩:=hl i x v e1 e2 e3
  refine ⟨u,r,?_⟩
  rcases l with l | ⟨k,c,e,z⟩
  ·exact .inl l
  ·exact .inr ⟨k,c,e,cellK x c e _ z⟩
 ·obtain ⟨v,z⟩:=I.cell x c e
  exact ⟨v,cellK x c e v z⟩
 ·obtain ⟨m,⟨o,_,_,ho,_⟩,_⟩:=I.loc
  exact free _ o (fun z=>(hch _ z).2.1 rfl) ho I.free
 ·obtain ⟨v,o,ho,hd⟩:=I.cell x c e
  exact free c o (fun z=>(hch c z).2.2.1 x c e rfl) ho (I.jK x c e)
 ·obtain ⟨e,n,ne,nf,d⟩:=I.pin p hp
  have nch:p.1∉ch:=fun z=>(hch p.1 z).2.2.2 p hp rfl
  exact ⟨keep p.1 p.2 ne nf nch e n,free p.1 p.2 nch e n,ne,nf,d⟩
theorem Inv.un {t':Nat} (I:Inv X pins σ H s) (u:Un X.fs [] H H' s.heap h') (hok:nH X.prog X.w H' h'):Inv X pins σ H' { s with heap:=h',toks:=t' }:=by
 obtain ⟨m,⟨o,es,ep,ho,r⟩,_⟩:=id I.loc
 obtain ⟨sl,hL⟩:=u.any ho I.free (by simp)
 exact I.step (g':=s.gens) (d':=s.drawn) (ch:=[]) (fun _ z=>nomatch z) (fun b o _ hb _ e n=>u.keep b o e n hb (by simp)) (fun b o _ hb _ e n=>u.slot b o e n hb (by simp)) (fun b o _ e n=>u.free b o e n (by simp)) (fun b o _ e=>u.there b o e (by simp)) u.tups u.oI u.nI (fun m' hm=>by
  obtain ⟨o',es',ep',ho',r'⟩:=hm
  rw [ho] at ho'; cases ho'
  exact ⟨_,es',ep',hL,r'⟩) hok I.bare
theorem Inv.call {g':Array GenState} {t':Nat} {d':Drawn} {ch:List Addr} (I:Inv X pins σ H s) (u:Un (frs X.stack) ch H H' s.heap h') (hok:nH X.prog X.w H' h') (hg:AllBare g')
  (hch:∀ b∈ch,(b∈X.ex\/X.s₀.heap.objs.size<=b)/\b≠X.env.locals/\(∀ x c,X.env.cells.lookup x=some c->c≠b) /\ ∀ p∈X.pn++pins,p.1≠b) :
  Inv X pins σ H' { s with heap:=h',gens:=g',drawn:=d',toks:=t' }:=by
 obtain ⟨m,⟨o,es,ep,ho,r⟩,_⟩:=id I.loc
 obtain ⟨sl,hL⟩:=u.any ho I.free fun z=>(hch _ z).2.1 rfl
 exact I.step (ch:=ch) hch (fun b o hL hb hc e n=>u.keep b o e n (fun z=>(List.mem_cons.mp (I.nJ b z)).elim hL hb) hc) (fun b o _ _ hc e n=>u.any e n hc) (fun b o hc e n=>u.free b o e n hc) (fun b o hc e=>u.there b o e hc) u.tups u.oI u.nI (fun m' hm=>by
  obtain ⟨o',es',ep',ho',r'⟩:=hm
  rw [ho] at ho'; cases ho'
  exact ⟨_,es',ep',hL,r'⟩) hok hg
theorem Inv.turned {t':Nat} {it:Addr} (I:Inv X pins σ H s) (k:∀ b o,b≠it->s.heap.get? b=some o->h'.get? b=some o) (hn:H it=none) (hL:it≠X.env.locals)
  (h1:it∈X.ex\/X.s₀.heap.objs.size<=it) (h2:∀ x c,X.env.cells.lookup x=some c->c≠it) (h3:∀ p∈X.pn++pins,p.1≠it):Inv X pins σ H { s with heap:=h',toks:=t' }:=by
 have nit:∀ b u,H b=some u->b≠it:=fun b u e z=>by rw [z,hn] at e; cases e
 refine I.step (g':=s.gens) (d':=s.drawn) (ch:=[it]) (fun b hb=>?_) (fun b o _ _ hc e _=>k b o (fun z=>hc (by simp [z])) e) (fun b o _ _ hc e _=>⟨o.slots,k b o (fun z=>hc (by simp [z])) e⟩) (fun _ _ _ _ n=>n)
  (fun b o hc e=>⟨o,k b o (fun z=>hc (by simp [z])) e⟩) (fun _ _ e=>e) (fun _ _ _ e=>e) (fun b ps e=>e) (fun m hm=>?_) (fun b u e=>?_) I.bare
 ·have e:b=it:=by simpa using hb
  subst e
  exact ⟨h1,hL,h2,h3⟩
 ·obtain ⟨o,es,ep,ho,r⟩:=hm
  exact ⟨o,es,ep,k _ o (Ne.symm hL) ho,r⟩
 ·refine (I.hok b u e).stay (fun c v hc q=>k c v ?_ q) (fun _ q=>q) fun _ _ q=>q
  rcases hc with z | z
  ·rw [z]; exact nit b u e
  ·exact nit c _ z
theorem Inv.tok (I:Inv X pins σ H s) (t:Nat):Inv X pins σ H { s with toks:=t }:=I.un (h':=s.heap) (t':=t) Un.refl I.hok
theorem Inv.kept {t':Nat} (I:Inv X pins σ H s) (k:∀ b u,s.heap.get? b=some u->h'.get? b=some u):Inv X pins σ H { s with heap:=h',toks:=t' }:=I.un (Un.kept k) (I.hok.kept k)
theorem Inv.laid {a:Addr} {o:HO} {t':Nat} (I:Inv X pins σ H s) (k:∀ b u,s.heap.get? b=some u->h'.get? b=some u) (hp:s.heap.objs.size<=a) (new:dA X.prog X.w (upd H a o) h' a o) :
  Inv X pins σ (upd H a o) { s with heap:=h',toks:=t' }:=I.un (Un.laid k hp (I.hok.fresh hp)) (I.hok.laid k hp new)
theorem Inv.write {x e:Addr} {o:HO} {t':Nat} (I:Inv X pins σ H s) (mu:Mut (H x)) (he:e=x\/H e=some (.own x)) (k:∀ b u,b≠e->s.heap.get? b=some u->h'.get? b=some u) (heo:∃ u,h'.get? e=some u)
  (new:dA X.prog X.w (upd H x o) h' x o):Inv X pins σ (upd H x o) { s with heap:=h',toks:=t' }:=I.un (Un.write mu he k heo) (I.hok.write mu he k heo new)
theorem Inv.weak {σ':List (Option V)} (I:Inv X pins σ H s) (hl:σ'.length=σ.length) (w:∀ (i:Nat) v,σ'[i]? = some (some v)->σ[i]? = some (some v)):Inv X pins σ' H s :=
 ⟨I.ok,I.os,I.bare,I.base,let ⟨m,hn,hl'⟩:=I.loc; ⟨m,hn,fun i x v e1 e2 e3=>hl' i x v e1 (w i v e2) e3⟩,I.cell,I.free,I.jK,I.pin,I.hok,hl.trans I.len⟩
theorem Inv.IL {IM:List (Addr×Obj)} (I:Inv X pins σ H s) (h:∀ p∈IM,s.heap.get? p.1=some p.2/\H p.1=none/\p.1≠X.env.locals/\p.1∉X.fs /\ ∀ v,p.2.data≠.cell v):Inv X IM σ H s :=
 ⟨I.ok,I.os,I.bare,I.base,I.loc,I.cell,I.free,I.jK,fun p hp=>(List.mem_append.mp hp).elim (fun z=>I.pin p (List.mem_append_left _ z)) (h p),I.hok,I.len⟩
theorem CJ {N:List Str} (hN:N.Nodup) {i j:Nat} {x:Str} (a:N[i]? = some x) (b:N[j]? = some x):i=j:=by
 obtain ⟨h1,e1⟩:=List.getElem?_eq_some_iff.mp a
 obtain ⟨h2,e2⟩:=List.getElem?_eq_some_iff.mp b
 exact (List.getElem_inj hN).mp (e1.trans e2.symm)
theorem KR {M:Model} {A:Around} {E:Value->Shared->Prop} {i:Nat} {x:Str} {v:V} {u:Value} {Q:Unit->Shared->Prop} (I:Inv X pins σ H s) (hN:X.N.Nodup) (hi:X.N[i]? = some x) (hx:Loc X.env.scope x) (r:RelV v u)
  (h:∀ s',Inv X pins (σ.set i (some v)) H s'->(∃ a,Heap.SameBut a s.heap s'.heap/\(a=X.env.locals\/X.env.cells.lookup x=some a))->Q () s') (hf:X.fn x=true\/X.env.scope.names.lookup x=some .local:=by first | exact .inl rfl | exact .inr rfl | assumption):wpAny M A (storeName X.env x u) Q E s:=by
 obtain ⟨m,hn,hl⟩:=id I.loc
 have hcls:(X.env.scope.kind == .class||(X.env.scope.kind == .module&&X.env.locals != X.env.globals))=false:=by rw [I.ok.kind]; rfl
 have hiσ:i<σ.length:=by rw [I.len]; exact (List.getElem?_eq_some_iff.mp hi).1
 have YE:=I.YE
 have tracked:∀ {a:Addr} {h':Heap},(∃ o,s.heap.get? a=some o/\H a=none)->Heap.SameBut a s.heap h'->nH X.prog X.w H h':=fun {a h'} ha hs b ob e=>by
  obtain ⟨_,_,hfree⟩:=ha
  refine (I.hok b ob e).stay (fun c w' hc q=>(hs.2 c ?_).trans q) (fun _ q=>q) fun _ _ q=>q
  rintro rfl
  rcases hc with rfl | hc
  ·rw [hfree] at e; cases e
  ·rw [hfree] at hc; cases hc
 rcases hx with hk | hk
 ·refine wpAny_storeName_local hk hn (fun h' hn' hs=>?_) hcls
  obtain ⟨oL,_,_,hoL,_⟩:=id hn
  refine h _ ⟨I.ok,I.os,I.bare,⟨fun b o e n hb hx=>?_,fun b o e n hb hx=>?_,I.base.free,fun b o e hx=>?_,I.base.tups,I.base.oI,I.base.nI⟩,⟨_,hn',fun j y v' e1 e2 e3=>?_⟩,fun y c e=>?_,I.free,I.jK,fun p hp=>?_,tracked ⟨oL,hoL,I.free⟩ hs,by simpa using I.len⟩ ⟨_,hs,.inl rfl⟩
  ·exact (hs.2 b (Nat.ne_of_lt (Nat.lt_of_lt_of_le (Heap.lt_size e) I.ok.above))).trans (I.base.keep b o e n hb hx)
  ·obtain ⟨sl,e1⟩:=I.base.slot b o e n hb hx
   exact ⟨sl,(hs.2 b (Nat.ne_of_lt (Nat.lt_of_lt_of_le (Heap.lt_size e) I.ok.above))).trans e1⟩
  ·obtain ⟨o',e1⟩:=I.base.there b o e hx
   exact ⟨o',(hs.2 b (Nat.ne_of_lt (Nat.lt_of_lt_of_le (Heap.lt_size e) I.ok.above))).trans e1⟩
  ·by_cases hj:j=i
   ·subst hj
    rw [hi] at e1; cases e1
    rw [List.getElem?_set_self hiσ] at e2
    cases e2
    exact ⟨u,r,.inl ⟨hk,by simp⟩⟩
   ·rw [List.getElem?_set_ne (Ne.symm hj)] at e2
    obtain ⟨u',r',q⟩:=hl j y v' e1 e2 e3
    refine ⟨u',r',?_⟩
    rcases q with ⟨k,e⟩ | ⟨k,c,e,z⟩
    ·refine .inl ⟨k,?_⟩
     have:y≠x:=fun e=>hj (CJ hN e1 (e▸hi))
     simp [this,e]
    ·exact .inr ⟨k,c,e,z.sameBut hs (YE y c e)⟩
  ·obtain ⟨w',z⟩:=I.cell y c e
   exact ⟨w',z.sameBut hs (YE y c e)⟩
  ·obtain ⟨e,n,ne,nf,d⟩:=I.pin p hp
   exact ⟨(hs.2 p.1 ne).trans e,n,ne,nf,d⟩
 ·have hfn:X.fn x=true:=by
   rcases hf with z | z
   ·exact z
   ·rw [z] at hk; cases hk
  obtain ⟨c,hc⟩:=I.ok.has x (.inl hk)
  obtain ⟨w',z⟩:=I.cell x c hc
  refine wpAny_storeName_cell I.ok.kind hk hc z (fun h' hc' hs=>?_)
  obtain ⟨oc,hoc,aEq⟩:=id z
  refine h { s with heap:=h' } ⟨I.ok,I.os,I.bare,⟨fun b o e n hb hx=>?_,fun b o e n hb hx=>?_,I.base.free,fun b o e hx=>?_,I.base.tups,I.base.oI,I.base.nI⟩,⟨m,hn.sameBut hs (Ne.symm (YE x c hc)),fun j y v' e1 e2 e3=>?_⟩,fun y c' e=>?_,I.free,I.jK,fun p hp=>?_,tracked ⟨oc,hoc,I.jK x c hc⟩ hs,by simpa using I.len⟩ ⟨c,hs,.inr hc⟩
  ·exact (hs.2 b (Nat.ne_of_lt (Nat.lt_of_lt_of_le (Heap.lt_size e) (I.ok.cab x c hfn hc)))).trans (I.base.keep b o e n hb hx)
  ·obtain ⟨sl,e1⟩:=I.base.slot b o e n hb hx
   exact ⟨sl,(hs.2 b (Nat.ne_of_lt (Nat.lt_of_lt_of_le (Heap.lt_size e) (I.ok.cab x c hfn hc)))).trans e1⟩
  ·obtain ⟨o',e1⟩:=I.base.there b o e hx
   exact ⟨o',(hs.2 b (Nat.ne_of_lt (Nat.lt_of_lt_of_le (Heap.lt_size e) (I.ok.cab x c hfn hc)))).trans e1⟩
  ·by_cases hj:j=i
   ·subst hj
    rw [hi] at e1; cases e1
    rw [List.getElem?_set_self hiσ] at e2
    cases e2
    exact ⟨u,r,.inr ⟨.inl hk,c,hc,hc'⟩⟩
   ·rw [List.getElem?_set_ne (Ne.symm hj)] at e2
    obtain ⟨u',r',q⟩:=hl j y v' e1 e2 e3
    refine ⟨u',r',?_⟩
    rcases q with q | ⟨k,c',e,z'⟩
    ·exact .inl q
    ·refine .inr ⟨k,c',e,z'.sameBut hs ?_⟩
     rintro rfl
     exact hj (CJ hN e1 (I.ok.inj _ _ _ e hc▸hi))
  ·by_cases hcc:c' = c
   ·subst hcc; exact ⟨_,hc'⟩
   ·obtain ⟨w2,z2⟩:=I.cell y c' e
    exact ⟨w2,z2.sameBut hs hcc⟩
  ·obtain ⟨e,n,ne,nf,d⟩:=I.pin p hp
   refine ⟨(hs.2 p.1 ?_).trans e,n,ne,nf,d⟩
   intro q
   rw [q,hoc] at e
   have q':oc=p.2:=Option.some.inj e
   exact d w' (by rw [<- q']; exact aEq)
theorem CK {M:Model} {A:Around} {E:Value->Shared->Prop} {i:Nat} {x:Str} {v:V} {u:Value} {Q:Unit->Shared->Prop} (I:Inv X pins σ H s) (hN:X.N.Nodup) (hi:X.N[i]? = some x) (hx:Loc X.env.scope x) (r:RelV v u)
  (h:∀ s',Inv X pins (σ.set i (some v)) H s'->Q () s') (hf:X.fn x=true\/X.env.scope.names.lookup x=some .local:=by first | exact .inl rfl | exact .inr rfl | assumption):wpAny M A (storeName X.env x u) Q E s :=
 KR I hN hi hx r (fun s' I' _=>h s' I') hf
theorem Inv.call' {s':Shared} {ch:List Addr} (I:Inv X pins σ H s) (ho:s'.os=s.os) (u:Un (frs X.stack) ch H H' s.heap s'.heap) (hok:nH X.prog X.w H' s'.heap) (hg:AllBare s'.gens)
  (hch:∀ b∈ch,(b∈X.ex\/X.s₀.heap.objs.size<=b)/\b≠X.env.locals/\(∀ x c,X.env.cells.lookup x=some c->c≠b) /\ ∀ p∈X.pn++pins,p.1≠b):Inv X pins σ H' s':=by
 obtain ⟨h',g',d',t',o'⟩:=s'
 have e:o' = s.os:=ho
 subst e
 exact I.call (g':=g') (t':=t') (d':=d') u hok hg hch
end
noncomputable abbrev XK:=Value->Option Addr->Hp->Prop
noncomputable abbrev St:=List (Option V)
noncomputable abbrev VK:=V->Hp->Prop
noncomputable abbrev TE:=St->Hp->VK->Prop
noncomputable abbrev TT:=St->Hp->(Bool->Hp->Prop)->Prop
noncomputable abbrev TA:=St->Hp->(List V->Hp->Prop)->Prop
structure Ends where
 nx:St->Hp->Prop
 rt:VK
 bk:St->Hp->Prop:=fun _ _=>False
 ct:St->Hp->Prop:=fun _ _=>False
noncomputable abbrev TS:=Ends->St->Hp->Prop
noncomputable def EP (X:Cx) (pins:List (Addr×Obj)) (σ:St) (Q:VK) (u:Value) (s':Shared):Prop:=∃ v H',Inv X pins σ H' s'/\RelV v u/\Q v H'
noncomputable def TP (X:Cx) (pins:List (Addr×Obj)) (σ:St) (Q:Bool->Hp->Prop) (b:Bool) (s':Shared):Prop:=∃ H',Inv X pins σ H' s'/\Q b H'
noncomputable def AP (X:Cx) (pins:List (Addr×Obj)) (σ:St) (Q:List V->Hp->Prop) (us:List Value) (s':Shared):Prop:=∃ vs H',Inv X pins σ H' s'/\Vals vs us/\Q vs H'
noncomputable def SP (X:Cx) (pins:List (Addr×Obj)) (D:Ends) (f:Flow) (s':Shared):Prop :=
 match f with
 | .next=>∃ σ' H',Inv X pins σ' H' s'/\D.nx σ' H'
 | .brk=>∃ σ' H',Inv X pins σ' H' s'/\D.bk σ' H'
 | .cont=>∃ σ' H',Inv X pins σ' H' s'/\D.ct σ' H'
 | .ret u=>∃ v σ' H',Inv X pins σ' H' s'/\RelV v u/\D.rt v H'
noncomputable def PE (X:Cx) (e:Expr) (t:TE):Prop :=
 ∀ (pins:List (Addr×Obj)) (s:Shared) (σ:St) (H:Hp) (Q:VK),Inv X pins σ H s->t σ H Q->wpAny (model X.prog X.w) X.A (eval e X.env) (EP X pins σ Q) X.xe s
noncomputable def PT (X:Cx) (e:Expr) (t:TT):Prop :=
 ∀ (pins:List (Addr×Obj)) (s:Shared) (σ:St) (H:Hp) (Q:Bool->Hp->Prop),Inv X pins σ H s->t σ H Q->wpAny (model X.prog X.w) X.A (isTrue e X.env (eval e X.env)) (TP X pins σ Q) X.xe s
noncomputable def PW (X:Cx) (e:Expr) (t:TT):Prop :=
 ∀ (whole:Sem Value) (pins:List (Addr×Obj)) (s:Shared) (σ:St) (H:Hp) (Q:Bool->Hp->Prop),Inv X pins σ H s->t σ H Q->wpAny (model X.prog X.w) X.A (isTrue e X.env whole) (TP X pins σ Q) X.xe s
theorem PW.pt {X:Cx} {e:Expr} {t:TT} (h:PW X e t):PT X e t:=h _
noncomputable def PA (X:Cx) (es:List Expr) (t:TA):Prop :=
 ∀ (pos:Pos) (pins:List (Addr×Obj)) (s:Shared) (σ:St) (H:Hp) (Q:List V->Hp->Prop),Inv X pins σ H s->t σ H Q->wpAny (model X.prog X.w) X.A (spliced (backTo pos (starEach es X.env))) (AP X pins σ Q) X.xe s
noncomputable def PS (X:Cx) (st:Stmt) (t:TS):Prop :=
 ∀ (pins:List (Addr×Obj)) (s:Shared) (σ:St) (H:Hp) (D:Ends),Inv X pins σ H s->t D σ H->wpAny (model X.prog X.w) X.A (exec st X.env) (SP X pins D) X.xe s
noncomputable def FF (X:Cx) (st:List Stmt) (t:TS):Prop :=
 ∀ (pins:List (Addr×Obj)) (s:Shared) (σ:St) (H:Hp) (D:Ends),Inv X pins σ H s->t D σ H->wpAny (model X.prog X.w) X.A (execs st X.env) (SP X pins D) X.xe s
theorem eP {α:Type} {t:Sem α} {Q Q':α->Shared->Prop} {M:Model} {A:Around} {E:Value->Shared->Prop} {s:Shared} (h:wpAny M A t Q E s) (hQ:∀ a s,Q a s->Q' a s):wpAny M A t Q' E s:=wpAny_mono h hQ fun _ _ x=>x
end L2
namespace L2
open PySem PySem.Spec PyProof.Rows
section
variable {X:Cx}
noncomputable def TV (i:Nat):TE:=fun σ H Q=>∃ v,σ[i]? = some (some v)/\Q v H
noncomputable def tC (v:V):TE:=fun _ H Q=>Q v H
theorem AG {i:Nat} {x:Str} {pos:Pos} (hN:X.N[i]? = some x) (hv:FE X.env.scope x) (hd:(x == ("__debug__" : Str))=false:=by decide) (hcd:(x == ("__classdict__" : Str))=false:=by decide):PE X (.Name x pos) (TV i):=by
 intro pins s σ H Q I h
 obtain ⟨v,e,h⟩:=h
 obtain ⟨m,hn,hl⟩:=I.loc
 obtain ⟨u,r,l⟩:=hl i x v hN e hv
 have fin:EP X pins σ Q u s:=⟨v,H,I,r,h⟩
 rcases l with ⟨hk,hm⟩ | ⟨hk,c,hc,hcell⟩
 ·exact wpAny_Name (wpAny_loadName_local I.ok.kind hk hn hm fin) hd
 ·rcases hk with hk | hk
  ·exact wpAny_Name (wpAny_loadName_cell I.ok.kind hk hc hcell fin) hd
  ·exact wpAny_Name (wpAny_loadName_free I.ok.kind hk hc hcell fin hcd) hd
theorem YF {i j pos}:PE X (.Constant (.int i) j pos) (tC (.int i)):=fun _ _ _ H _ I h=>wpAny_Constant_int ⟨.int i,H,I.tok _,⟨_,rfl⟩,h⟩
theorem aBP {b j pos}:PE X (.Constant (.bool b) j pos) (tC (.bl b)):=fun _ _ _ H _ I h=>Constant_bool ⟨.bl b,H,I,rfl,h⟩
theorem YG {j pos}:PE X (.Constant .none j pos) (tC .non):=fun _ _ _ H _ I h=>Constant_none ⟨.non,H,I,rfl,h⟩
theorem YH {x j pos}:PE X (.Constant (.str x) j pos) (tC (.str x)):=fun _ _ _ H _ I h=>Calls.Constant_str ⟨.str x,H,I.tok _,⟨_,rfl⟩,h⟩
noncomputable def Gl (X:Cx) (x:Str):Prop:=X.env.kindOf x=some .globalImplicit
theorem AH {E:Value->Shared->Prop} {pins:List (Addr×Obj)} {s:Shared} {σ:St} {H:Hp} {x:Str} {u:Value} {pos:Pos} {Q:Value->Shared->Prop} (I:Inv X pins σ H s) (hg:Gl X x) (hm:X.mg x=some u) (h:Q u s)
  (hd:(x == ("__debug__" : Str))=false:=by decide):wpAny (model X.prog X.w) X.A (eval (.Name x pos) X.env) Q E s :=
 Calls.Name_function_global I.ok.kind hg (Calls.loadGlobal_global (by rw [I.ok.glob]; exact I.mod.glob.keeps I.bk) hm h) hd
theorem qG {E:Value->Shared->Prop} {pins:List (Addr×Obj)} {s:Shared} {σ:St} {H:Hp} {x:Str} {u:Value} {pos:Pos} {Q:Value->Shared->Prop} (I:Inv X pins σ H s) (hg:Gl X x) (hm:X.mg x=none) (hv:bootBuiltins x=some u) (h:Q u s)
  (hn:x ≠ "__name__" := by decide) (hd:(x == ("__debug__" : Str))=false:=by decide):wpAny (model X.prog X.w) X.A (eval (.Name x pos) X.env) Q E s:=by
 obtain ⟨mb,h1,h2⟩:=I.mod.blt
 exact Calls.Name_function_global I.ok.kind hg (Calls.loadGlobal_builtin (by rw [I.ok.glob]; exact I.mod.glob.keeps I.bk) hm (by rw [I.ok.blt]; exact h1.keeps I.bk) ((h2 x hn).trans hv) h) hd
theorem TX {x:Str} {v:V} {u:Value} {pos:Pos} (hg:Gl X x) (hm:X.mg x=some u) (r:RelV v u) (hd:(x == ("__debug__" : Str))=false:=by decide):PE X (.Name x pos) (tC v) :=
 fun _ _ _ H _ I h=>AH I hg hm ⟨v,H,I,r,h⟩ hd
theorem TY {x:Str} {v:V} {u:Value} {pos:Pos} (hg:Gl X x) (hm:X.mg x=none) (hv:bootBuiltins x=some u) (r:RelV v u) (hn:x ≠ "__name__" := by decide) (hd:(x == ("__debug__" : Str))=false:=by decide):PE X (.Name x pos) (tC v) :=
 fun _ _ _ H _ I h=>qG I hg hm hv ⟨v,H,I,r,h⟩ hn hd
variable {a b:Expr} {ta tb:TE} {pos:Pos}
variable {tA tB':TT} {rest:List Expr}
noncomputable def lW (t u:TT):TT:=fun σ H Q=>t σ H fun c H1=>if c=true then u σ H1 Q else Q false H1
noncomputable def mC (t u:TT):TT:=fun σ H Q=>t σ H fun c H1=>if c=true then Q true H1 else u σ H1 Q
noncomputable def fE (t:TT):TT:=fun σ H Q=>t σ H fun c H1=>Q (!c) H1
theorem TZ (ha:PT X a tA):PW X (.BoolOp .And [a] pos) tA:=by
 intro wh pins s σ H Q I h
 refine isTrue_and (eP (ha pins s σ H Q I h) fun c s1 e=>?_)
 cases c with
 | true=>exact isTrue_and_nil e
 | false=>exact e
theorem YI (ha:PT X a tA):PW X (.BoolOp .Or [a] pos) tA:=by
 intro wh pins s σ H Q I h
 refine isTrue_or (eP (ha pins s σ H Q I h) fun c s1 e=>?_)
 cases c with
 | false=>exact isTrue_or_nil e
 | true=>exact e
theorem YJ (ha:PT X a tA) (hb:PW X (.BoolOp .And (b::rest) pos) tB'):PW X (.BoolOp .And (a::b::rest) pos) (lW tA tB'):=by
 intro wh pins s σ H Q I h
 refine isTrue_and (eP (ha pins s σ H _ I h) fun c s1 ⟨H1,I1,q1⟩=>?_)
 cases c with
 | true=>exact hb wh pins s1 σ H1 Q I1 q1
 | false=>exact ⟨H1,I1,q1⟩
theorem aBQ (ha:PT X a tA) (hb:PW X (.BoolOp .Or (b::rest) pos) tB'):PW X (.BoolOp .Or (a::b::rest) pos) (mC tA tB'):=by
 intro wh pins s σ H Q I h
 refine isTrue_or (eP (ha pins s σ H _ I h) fun c s1 ⟨H1,I1,q1⟩=>?_)
 cases c with
 | true=>exact ⟨H1,I1,q1⟩
 | false=>exact hb wh pins s1 σ H1 Q I1 q1
theorem YK (ha:PT X a tA):PT X (.UnaryOp .Not a pos) (fE tA):=by
 intro pins s σ H Q I h
 exact isTrue_not (ha pins s σ H (fun c H1=>Q (!c) H1) I h)
noncomputable def aBR (ta tb:TE):TE:=fun σ H Q=>ta σ H fun x H1=>∃ c,x=.bl c/\if c=true then tb σ H1 Q else Q (.bl false) H1
noncomputable def aEr (ta tb:TE):TE:=fun σ H Q=>ta σ H fun x H1=>∃ c,x=.bl c/\if c=true then Q (.bl true) H1 else tb σ H1 Q
noncomputable def aBS (ta:TE):TE:=fun σ H Q=>ta σ H fun x H1=>∃ c,x=.bl c/\Q (.bl (!c)) H1
theorem YL {op} {t:TE} (h:PE X a t):PE X (.BoolOp op [a] pos) t:=fun pins s σ H Q I hw=>BoolOp_one (h pins s σ H Q I hw)
theorem YM (ha:PE X a ta) (hb:PE X (.BoolOp .And (b::rest) pos) tb):PE X (.BoolOp .And (a::b::rest) pos) (aBR ta tb):=by
 intro pins s σ H Q I h
 refine BoolOp_and (eP (ha pins s σ H _ I h) fun v s1 ⟨x,H1,I1,r1,q1⟩=>?_)
 obtain ⟨c,rfl,q1⟩:=q1
 cases r1
 refine wpAny_truthy_bool ?_
 cases c with
 | true=>exact hb pins s1 σ H1 Q I1 q1
 | false=>exact ⟨.bl false,H1,I1,rfl,q1⟩
theorem aBT (ha:PE X a ta) (hb:PE X (.BoolOp .Or (b::rest) pos) tb):PE X (.BoolOp .Or (a::b::rest) pos) (aEr ta tb):=by
 intro pins s σ H Q I h
 refine BoolOp_or (eP (ha pins s σ H _ I h) fun v s1 ⟨x,H1,I1,r1,q1⟩=>?_)
 obtain ⟨c,rfl,q1⟩:=q1
 cases r1
 refine wpAny_truthy_bool ?_
 cases c with
 | false=>exact hb pins s1 σ H1 Q I1 q1
 | true=>exact ⟨.bl true,H1,I1,rfl,q1⟩
theorem YN (ha:PE X a ta):PE X (.UnaryOp .Not a pos) (aBS ta):=by
 intro pins s σ H Q I h
 refine UnaryOp_ (eP (ha pins s σ H _ I h) fun v s1 ⟨x,H1,I1,r1,q1⟩=>?_)
 obtain ⟨c,rfl,q1⟩:=q1
 cases r1
 exact not_of (wpAny_truthy_bool ⟨.bl (!c),H1,I1,rfl,q1⟩)
noncomputable def tIf (t:TT) (ta tb:TE):TE:=fun σ H Q=>t σ H fun c H1=>if c=true then ta σ H1 Q else tb σ H1 Q
theorem OP {c:Expr} (hc:PT X c tA) (ha:PE X a ta) (hb:PE X b tb):PE X (.IfExp c a b pos) (tIf tA ta tb):=by
 intro pins s σ H Q I h
 refine wpAny_IfExp (eP (hc pins s σ H _ I h) fun d s1 ⟨H1,I1,q1⟩=>?_)
 cases d with
 | true=>exact ha pins s1 σ H1 Q I1 q1
 | false=>exact hb pins s1 σ H1 Q I1 q1
end
end L2
namespace L2
open PySem PySem.Spec PyProof.Rows
noncomputable def fS (K:PySem.W.Frag) (H:Hp) (a:Addr) (xs:List V):Prop :=
 Rd H a (.lst xs) \/
  ∃ (o:Obj) (its:Array Value) (n:Nat),K.lookup a=some o/\o.cls=.type "list" /\ o.dict=none/\o.data=.seq its n/\its.size<=sizeLine/\Vals xs its.toList
noncomputable def fU (K:PySem.W.Frag) (H:Hp) (a:Addr) (xs:List V):Prop :=
 Rd H a (.tup xs) \/
  ∃ (o:Obj) (its:Array Value) (n:Nat),K.lookup a=some o/\o.cls=.type "tuple" /\ o.data=.seq its n/\its.size<=sizeLine/\Vals xs its.toList
noncomputable def aEs:Value->Option V
 | .none=>some .non
 | .bool b=>some (.bl b)
 | .int i _=>some (.int i)
 | .str x _=>some (.str x)
 | .bytes b _=>some (.KP b)
 | .float b _=>some (.flt b)
 | .ref a=>some (.ref a)
 | .type n=>some (.ty n)
 | _=>none
theorem RelV.abs {x:V} {u:Value} (r:RelV x u):aEs u=some x:=by
 cases x with
 | non=>cases r; rfl
 | bl _=>cases r; rfl
 | int _=>obtain ⟨t,rfl⟩:=r; rfl
 | str _=>obtain ⟨t,rfl⟩:=r; rfl
 | KP _=>obtain ⟨t,rfl⟩:=r; rfl
 | flt _=>obtain ⟨t,rfl⟩:=r; rfl
 | ref _=>cases r; rfl
 | ty _=>cases r; rfl
theorem RelV.inj {x y:V} {u:Value} (r:RelV x u) (q:RelV y u):x=y:=Option.some.inj (r.abs.symm.trans q.abs)
theorem Vals.inj:∀ {xs ys:List V} {us:List Value},Vals xs us->Vals ys us->xs=ys
 | _,_,_,.nil,.nil=>rfl
 | _,_,_,.cons r t,.cons r' t'=>by rw [r.inj r',Vals.inj t t']
section
variable {X:Cx} {pins:List (Addr×Obj)} {σ:St} {H:Hp} {s:Shared} {a:Addr} {xs ys:List V}
theorem fS.of {K:PySem.W.Frag} (h:H a=some (.lst xs)):fS K H a xs:=.inl (.inl h)
theorem fU.of {K:PySem.W.Frag} (h:H a=some (.tup xs)):fU K H a xs:=.inl (.inl h)
theorem Inv.list (I:Inv X pins σ H s) (h:fS X.K H a xs):∃ its:List Value,Vals xs its/\PlainL s.heap a its.toArray/\xs.length<=sizeLine:=by
 rcases h with h | ⟨o,its,n,hk,hc,hd,hs,hz,r⟩
 ·obtain ⟨z,its,n,r,e⟩:=h.ok I.hok
  exact ⟨its,r,⟨_,n,e,rfl,rfl,rfl⟩,z⟩
 ·refine ⟨its.toList,r,⟨o,n,I.wM a o hk,hc,hd,by simpa using hs⟩,?_⟩
  have e:=r.length
  simp only [Array.length_toList] at e
  omega
theorem Inv.tuple (I:Inv X pins σ H s) (h:fU X.K H a xs):∃ its:List Value,Vals xs its/\IsTup s.heap a its.toArray/\xs.length<=sizeLine:=by
 rcases h with h | ⟨o,its,n,hk,hc,hs,hz,r⟩
 ·obtain ⟨z,its,r,p,_⟩:=h.ok I.hok
  exact ⟨its,r,p,z⟩
 ·refine ⟨its.toList,r,⟨o,I.wM a o hk,hc,n,by simpa using hs⟩,?_⟩
  have e:=r.length
  simp only [Array.length_toList] at e
  omega
theorem Inv.oJ (I:Inv X pins σ H s) (h:fS X.K H a xs) (h':fS X.K H a ys):xs=ys:=by
 obtain ⟨its,r,⟨o,n,e,_,_,d⟩,_⟩:=I.list h
 obtain ⟨its',r',⟨o',n',e',_,_,d'⟩,_⟩:=I.list h'
 rw [e] at e'; cases e'
 rw [d] at d'
 injection d' with d1 _
 have:its=its':=by simpa using congrArg Array.toList d1
 subst this
 exact r.inj r'
theorem Inv.lN (I:Inv X pins σ H s) (h:fU X.K H a xs) (h':fU X.K H a ys):xs=ys:=by
 obtain ⟨its,r,⟨o,e,_,n,d⟩,_⟩:=I.tuple h
 obtain ⟨its',r',⟨o',e',_,n',d'⟩,_⟩:=I.tuple h'
 rw [e] at e'; cases e'
 rw [d] at d'
 injection d' with d1 _
 have:its=its':=by simpa using congrArg Array.toList d1
 subst this
 exact r.inj r'
end
noncomputable abbrev Cx.wish (X:Cx) (E:Value->Shared->Prop):Cx:={ X with xe:=E }
noncomputable abbrev Cx.WD (X:Cx):Cx:=X.wish fun _ _=>False
theorem Cx.Ok.wish {X:Cx} (ok:X.Ok) (E:Value->Shared->Prop):(X.wish E).Ok :=
 ⟨ok.mod,ok.kind,ok.glob,ok.blt,ok.above,ok.inj,ok.has,ok.cab,ok.hd,ok.frames,ok.stk,ok.exf,ok.bs,ok.TR,ok.OO,ok.TU,ok.sO,ok.frf,ok.tab⟩
theorem Cx.Ok.j3 {X:Cx} {E:Value->Shared->Prop} (ok:(X.wish E).Ok):X.Ok :=
 ⟨ok.mod,ok.kind,ok.glob,ok.blt,ok.above,ok.inj,ok.has,ok.cab,ok.hd,ok.frames,ok.stk,ok.exf,ok.bs,ok.TR,ok.OO,ok.TU,ok.sO,ok.frf,ok.tab⟩
section
variable {X:Cx} {pins:List (Addr×Obj)} {σ:St} {H:Hp} {s:Shared} {E:Value->Shared->Prop}
theorem Inv.wish (I:Inv X pins σ H s) (E:Value->Shared->Prop):Inv (X.wish E) pins σ H s:=⟨I.ok.wish E,I.os,I.bare,I.base,I.loc,I.cell,I.free,I.jK,I.pin,I.hok,I.len⟩
theorem Inv.j3 (I:Inv (X.wish E) pins σ H s):Inv X pins σ H s:=⟨I.ok.j3,I.os,I.bare,I.base,I.loc,I.cell,I.free,I.jK,I.pin,I.hok,I.len⟩
theorem SP.j3 {D:Ends} {f:Flow} {s':Shared} (h:SP (X.wish E) pins D f s'):SP X pins D f s':=by
 cases f with
 | next=>obtain ⟨σ',H',I,q⟩:=h; exact ⟨σ',H',I.j3,q⟩
 | brk=>obtain ⟨σ',H',I,q⟩:=h; exact ⟨σ',H',I.j3,q⟩
 | cont=>obtain ⟨σ',H',I,q⟩:=h; exact ⟨σ',H',I.j3,q⟩
 | ret u=>obtain ⟨v,σ',H',I,r,q⟩:=h; exact ⟨v,σ',H',I.j3,r,q⟩
theorem FF.WD {st:List Stmt} {t:TS} (h:FF X.WD st t):FF X st t:=fun pins s σ H D I hw =>
 wpAny_mono (h pins s σ H D (I.wish _) hw) (fun _ _ q=>q.j3) fun _ _ z=>False.elim z
end
section
variable {X:Cx} {st:Stmt} {rest:List Stmt} {t u:TS} {e:Expr} {te:TE} {pos:Pos}
noncomputable def aBU:TS:=fun D σ H=>D.nx σ H
noncomputable def aEt (t u:TS):TS:=fun D σ H=>t { D with nx:=u D } σ H
theorem T3:FF X [] aBU:=fun _ _ σ H _ I h=>wpAny_execs_nil ⟨σ,H,I,h⟩
theorem OQ (h1:PS X st t) (h2:FF X rest u):FF X (st::rest) (aEt t u):=by
 intro pins s σ H D I h
 refine wpAny_execs_cons (eP (h1 pins s σ H { D with nx:=u D } I h) fun f s1 q=>?_)
 cases f with
 | next =>
  obtain ⟨σ',H',I',q⟩:=q
  exact h2 pins s1 σ' H' D I' q
 | ret v=>exact q
 | brk=>exact q
 | cont=>exact q
theorem T4 (h1:PS X st t):FF X [st] t:=by
 intro pins s σ H D I h
 refine wpAny_execs_cons (eP (h1 pins s σ H D I h) fun f s1 q=>?_)
 cases f with
 | next=>exact wpAny_execs_nil q
 | ret v=>exact q
 | brk=>exact q
 | cont=>exact q
theorem Inv.quiet {pins:List (Addr×Obj)} {σ:St} {H:Hp} {s:Shared} (I:Inv X pins σ H s):interactive X.env=false:=by simp [interactive,I.ok.kind]
noncomputable def aBV (te:TE):TS:=fun D σ H=>te σ H fun _ H1=>D.nx σ H1
theorem IP (he:PE X e te) (hs:swapsWith e none pos.line X.env=pure false:=by rfl):PS X (.Expr e pos) (aBV te):=by
 intro pins s σ H D I h
 exact wpAny_Expr_any (eP (he pins s σ H _ I h) fun v s1 ⟨x,H1,I1,r1,q1⟩=>⟨σ,H1,I1,q1⟩) I.quiet hs
noncomputable def aEu (te:TE):TS:=fun D σ H=>te σ H D.rt
theorem YO (he:PE X e te):PS X (.Return (some e) pos) (aEu te):=by
 intro pins s σ H D I h
 exact wpAny_Return_some (eP (he pins s σ H _ I h) fun v s1 ⟨x,H1,I1,r1,q1⟩=>⟨x,σ,H1,I1,r1,q1⟩)
noncomputable def aEv (c:TT) (t u:TS):TS:=fun D σ H=>c σ H fun b H1=>if b=true then t D σ H1 else u D σ H1
theorem aBW {c:Expr} {a b:List Stmt} {tc:TT} (hc:PT X c tc) (ha:FF X a t) (hb:FF X b u):PS X (.If c a b pos) (aEv tc t u):=by
 intro pins s σ H D I h
 refine wpAny_If (eP (hc pins s σ H _ I h) fun d s1 ⟨H1,I1,q1⟩=>?_)
 cases d with
 | true=>exact ha pins s1 σ H1 D I1 q1
 | false=>exact hb pins s1 σ H1 D I1 q1
end
noncomputable abbrev TG:=V->St->Hp->(St->Hp->Prop)->Prop
noncomputable abbrev YQ:=List V->St->Hp->(St->Hp->Prop)->Prop
noncomputable def PG (X:Cx) (target:Expr) (t:TG):Prop :=
 ∀ (pins:List (Addr×Obj)) (s:Shared) (σ:St) (H:Hp) (v:V) (u:Value) (Q:St->Hp->Prop),Inv X pins σ H s->RelV v u->t v σ H Q ->
  wpAny (model X.prog X.w) X.A (assign target X.env u) (fun _ s'=>∃ σ' H',Inv X pins σ' H' s'/\Q σ' H') X.xe s
noncomputable def PGs (X:Cx) (ts:List Expr) (t:YQ):Prop :=
 ∀ (pins:List (Addr×Obj)) (s:Shared) (σ:St) (H:Hp) (vs:List V) (us:List Value) (Q:St->Hp->Prop),Inv X pins σ H s->Vals vs us->t vs σ H Q ->
  wpAny (model X.prog X.w) X.A (assignInOrder ((assignEach ts X.env).map (·.2)) us) (fun _ s'=>∃ σ' H',Inv X pins σ' H' s'/\Q σ' H') X.xe s
section
variable {X:Cx} {pos:Pos}
noncomputable def WH (i:Nat):TG:=fun v σ H Q=>Q (σ.set i (some v)) H
theorem lO {i:Nat} {x:Str} (hN:X.N.Nodup) (hi:X.N[i]? = some x) (hx:Loc X.env.scope x) (hf:X.fn x=true\/X.env.scope.names.lookup x=some .local:=by first | exact .inl rfl | exact .inr rfl | assumption):PG X (.Name x pos) (WH i):=by
 intro pins s σ H v u Q I r h
 exact wpAny_assign_Name (CK I hN hi hx r (fun s' I'=>⟨_,H,I',h⟩) hf)
noncomputable def aEw:YQ:=fun vs σ H Q=>vs=[]/\Q σ H
noncomputable def aBX (t:TG) (u:YQ):YQ:=fun vs σ H Q=>∃ v r,vs=v::r/\t v σ H fun σ' H'=>u r σ' H' Q
theorem IQ:PGs X [] aEw:=by
 intro pins s σ H vs us Q I r h
 obtain ⟨e,h⟩:=h
 subst e
 cases r
 exact assignInOrder_nil ⟨σ,H,I,h⟩
theorem oK {e:Expr} {es:List Expr} {t:TG} {u:YQ} (h1:PG X e t) (h2:PGs X es u)
  (hs:(assignEach (e::es) X.env).map (·.2)=assign e X.env::(assignEach es X.env).map (·.2):=by rfl):PGs X (e::es) (aBX t u):=by
 intro pins s σ H vs us Q I r h
 obtain ⟨v,vr,e1,h⟩:=h
 subst e1
 cases r with
 | cons r rr =>
  rw [hs]
  refine assignInOrder_cons (eP (h1 pins s σ H _ _ _ I r h) fun _ s1 ⟨σ1,H1,I1,q1⟩=>?_)
  exact h2 pins s1 σ1 H1 _ _ Q I1 rr q1
noncomputable def aEx (K:PySem.W.Frag) (n:Nat) (t:YQ):TG:=fun v σ H Q=>∃ a xs,v=.ref a/\fU K H a xs/\xs.length=n/\t xs σ H Q
theorem OR {es:List Expr} {k:Nat} {t:YQ} {n:Nat} (hc:X.calm=true) (h:PGs X es t)
  (hn:(assignEach es X.env).length=n:=by rfl) (hst:(assignEach es X.env).findIdx? (·.1)=none:=by rfl):PG X (.Tuple es k pos) (aEx X.K n t):=by
 intro pins s σ H v u Q I r hw
 obtain ⟨a,xs,e1,hq,hl,hw⟩:=hw
 subst e1
 cases r
 obtain ⟨its,rv,ht,hz⟩:=I.tuple hq
 refine assign_Tuple_tuple (I.ok.hd hc) ht (by simp [hn,<- hl,rv.length]) hst fun h' hx=>?_
 have I1:Inv X pins σ H { s with heap:=h' }:=I.kept (t':=s.toks) fun b o e=>hx b o (Nat.ne_of_lt (Heap.lt_size e)) e
 exact h pins _ σ H xs _ Q I1 (by simpa using rv) hw
noncomputable def aEy (te:TE) (g:TG):TS:=fun D σ H=>te σ H fun x H1=>g x σ H1 D.nx
theorem uQ {i:Nat} {x:Str} {e:Expr} {te:TE} {pos':Pos} (hN:X.N.Nodup) (hi:X.N[i]? = some x) (hx:Loc X.env.scope x) (he:PE X e te) (hs:swapsWith e (some (.Name x pos')) pos.line X.env=pure false:=by rfl) (hf:X.fn x=true\/X.env.scope.names.lookup x=some .local:=by first | exact .inl rfl | exact .inr rfl | assumption) :
  PS X (.Assign [.Name x pos'] e pos) (aEy te (WH i)):=by
 intro pins s σ H D I h
 refine wpAny_Assign_Name (eP (he pins s σ H _ I h) fun v s1 ⟨y,H1,I1,r1,q1⟩=>?_) hs
 exact CK I1 hN hi hx r1 (fun s2 I2=>⟨_,H1,I2,q1⟩) hf
end
section
variable {X:Cx} {pos:Pos}
end
structure It where
 go:Nat->Hp->Prop
 yld:Nat->Hp->V->Hp->Prop
 stop:Nat->Hp->Prop
noncomputable def lY (X:Cx) (pins:List (Addr×Obj)) (H:Hp) (b:Addr):Prop :=
 H b=none/\b≠X.env.locals/\b∉X.fs/\(b∈X.ex\/X.s₀.heap.objs.size<=b)/\(∀ x c,X.env.cells.lookup x=some c->c≠b) /\ ∀ p∈X.pn++pins,p.1≠b
theorem Inv.FG {X:Cx} {pins:List (Addr×Obj)} {σ:St} {H H':Hp} {s:Shared} {b:Addr} (I:Inv X pins σ H s) (hb:s.heap.objs.size<=b) (hn:H' b=none):lY X pins H' b:=by
 refine ⟨hn,Nat.ne_of_gt (Nat.lt_of_lt_of_le I.lt hb),I.aEp hb,.inr (Nat.le_trans I.sz hb),fun x c e z=>?_,fun p hp z=>?_⟩
 ·obtain ⟨v,q⟩:=I.cell x c e
  exact absurd (Nat.lt_of_lt_of_le q.lt (by rw [z]; exact hb)) (Nat.lt_irrefl _)
 ·exact absurd (Nat.lt_of_lt_of_le (Heap.lt_size (I.pin p hp).1) (by rw [z]; exact hb)) (Nat.lt_irrefl _)
structure Turn (P:Program) (w:World) (K:PySem.W.Frag) (tg:Expr) (J:It) (fp:List Addr) (it:Addr) (tn:Nat->Heap->Prop):Prop where
 mem:it∈fp
 obj:∀ i h,tn i h -> ∀ b∈fp,∃ o,h.get? b=some o /\ ∀ v,o.data≠.cell v
 keep:∀ i h h',tn i h->(∀ b∈fp,∀ o,h.get? b=some o->h'.get? b=some o)->tn i h'
 item:∀ (X:Cx),X.prog=P->X.w=w->X.K=K->X.calm=true -> ∀ (i:Nat) (pins:List (Addr×Obj)) (s:Shared) (σ:St) (H:Hp) (E:Value->Shared->Prop),Inv X pins σ H s->(∀ b∈fp,lY X pins H b)->tn i s.heap->J.go i H ->
  wpAny (model P w) X.A (pyNext (.ref it)) (fun r s1=>∃ u,r=some u /\
   wpAny (model P w) X.A (letOwnedTupleGo tg (.ref it) u) (fun _ s2=>∃ x H',Inv X pins σ H' s2/\RelV x u/\J.yld i H x H'/\tn (i+1) s2.heap /\ ∀ b∈fp,H' b=none) E s1) E s
 done:∀ (X:Cx),X.prog=P->X.w=w->X.K=K->X.calm=true -> ∀ (i:Nat) (pins:List (Addr×Obj)) (s:Shared) (σ:St) (H:Hp) (E:Value->Shared->Prop),Inv X pins σ H s->(∀ b∈fp,lY X pins H b)->tn i s.heap->J.stop i H ->
  wpAny (model P w) X.A (pyNext (.ref it)) (fun r s1=>r=none/\Inv X pins σ H s1) E s
 self:∀ (A:Around) (i:Nat) (s:Shared) (Q:Value->Shared->Prop) (E:Value->Shared->Prop),tn i s.heap->Q (.ref it) s->wpAny (model P w) A (pyIter (.ref it)) Q E s
noncomputable abbrev TI:=St->Hp->(It->Hp->Prop)->Prop
noncomputable def PIE (X:Cx) (pins:List (Addr×Obj)) (σ:St) (tg:Expr) (R:It->Hp->Prop) (itv:Value) (s2:Shared):Prop :=
 ∃ (it:Addr) (fp:List Addr) (tn:Nat->Heap->Prop) (J:It) (H':Hp),itv=.ref it/\Inv X pins σ H' s2/\Turn X.prog X.w X.K tg J fp it tn/\tn 0 s2.heap/\(∀ b∈fp,lY X pins H' b)/\R J H'
noncomputable def PI (X:Cx) (tg iter:Expr) (wi:TI):Prop :=
 ∀ (pins:List (Addr×Obj)) (s:Shared) (σ:St) (H:Hp) (R:It->Hp->Prop),Inv X pins σ H s->wi σ H R ->
  wpAny (model X.prog X.w) X.A (eval iter X.env) (fun v s1=>wpAny (model X.prog X.w) X.A (pyIter v) (PIE X pins σ tg R) X.xe s1) X.xe s
theorem OS {M:Model} {A:Around} {E:Value->Shared->Prop} {s:Shared} {tg:Expr} {it:Addr} {u:Value} {o:Obj} {n:String} {vs:Array Value} {Q:Unit->Shared->Prop} (ho:s.heap.get? it=some o) (hc:o.cls=.type n) (hd:o.data=.fields vs)
  (hn:["enumerate", "zip", "dict_itemiterator", "dict_reverseitemiterator", "odict_iterator", "itertools.zip_longest", "itertools.pairwise"].contains n=false) (hQ:Q () s):wpAny M A (letOwnedTupleGo tg (.ref it) u) Q E s:=by
 unfold letOwnedTupleGo
 cases tg<;>first
  | exact wpAny_pure hQ
  | (cases u<;>first
    | exact wpAny_pure hQ
    | (refine wpAny_bind (wpAny_load ho ?_)
       rw [hc,hd]
       show wpAny M A (if (["enumerate", "zip", "dict_itemiterator", "dict_reverseitemiterator", "odict_iterator", "itertools.zip_longest", "itertools.pairwise"].contains n&&vs[0]? == some (rawInt _))=true then _ else _) Q E s
       rw [if_neg (by intro h; rw [hn,Bool.false_and] at h; cases h)]
       exact wpAny_pure hQ))
noncomputable def Itl (K:PySem.W.Frag) (a:Addr):It :=
 ⟨fun i H=>∃ xs x,fS K H a xs/\xs[i]? = some x,fun i H x H'=>H' = H /\ ∀ xs,fS K H a xs->xs[i]? = some x,fun i H=>∃ xs,fS K H a xs/\xs.length<=i⟩
noncomputable def Itt (K:PySem.W.Frag) (a:Addr):It :=
 ⟨fun i H=>∃ xs x,fU K H a xs/\xs[i]? = some x,fun i H x H'=>H' = H /\ ∀ xs,fU K H a xs->xs[i]? = some x,fun i H=>∃ xs,fU K H a xs/\xs.length<=i⟩
noncomputable def Itr (lo:Int) (n:Nat):It:=⟨fun i _=>i<n,fun i H x H'=>H' = H/\x=.int (lo+i),fun i _=>n<=i⟩
theorem KS {P:Program} {w:World} {K:PySem.W.Frag} {tg:Expr} (a it:Addr):Turn P w K tg (Itl K a) [it] it (fun i h=>h.IsListIter it a i) where
 mem:=by simp
 obj:=fun i h st b hb=>by
  have e:b=it:=by simpa using hb
  subst e
  obtain ⟨o,e,c,d⟩:=st
  exact ⟨o,e,fun v z=>by rw [d] at z; cases z⟩
 keep:=fun i h h' st k=>st.at fun o e=>k it (by simp) o e
 item:=by
  intro X hP hw hK hc i pins s σ H E I hf st hg
  subst hP hw hK
  obtain ⟨xs,x,hq,hx⟩:=hg
  obtain ⟨its,rv,p,hz⟩:=I.list hq
  obtain ⟨u,hu,ru⟩:=rv.get hx
  obtain ⟨f0,f1,f2,f3,f4,f5⟩:=hf it (by simp)
  refine wpAny_pyNext_list_item st p.isList (x:=u) (by simpa using hu) fun h' st' sb=>?_
  have I1:Inv X pins σ H { s with heap:=h' }:=I.turned (t':=s.toks) (fun b o hb e=>(sb.2 b hb).trans e) f0 f1 f3 f4 f5
  obtain ⟨o,e,c,d⟩:=id st'
  exact ⟨u,rfl,OS (s:={ s with heap:=h' }) e c d (by decide) ⟨x,H,I1,ru,⟨rfl,fun ys hy=>by rw [I.oJ hy hq]; exact hx⟩,st',fun b hb=>(hf b hb).1⟩⟩
 done:=by
  intro X hP hw hK hc i pins s σ H E I hf st hg
  subst hP hw hK
  obtain ⟨xs,hq,hx⟩:=hg
  obtain ⟨its,rv,p,hz⟩:=I.list hq
  obtain ⟨f0,f1,f2,f3,f4,f5⟩:=hf it (by simp)
  have hl:=rv.length
  exact wpAny_pyNext_list_end (I.ok.hd hc) st p.isList (by simp; omega) fun h' eb=>⟨rfl,I.turned (t':=s.toks) (fun b o hb e=>eb b o hb e) f0 f1 f3 f4 f5⟩
 self:=fun _ _ _ _ _ st h=>wpAny_pyIter_listiter st h
theorem FH {P:Program} {w:World} {K:PySem.W.Frag} {tg:Expr} (a it:Addr):Turn P w K tg (Itt K a) [it] it (fun i h=>h.IsTupleIter it a i) where
 mem:=by simp
 obj:=fun i h st b hb=>by
  have e:b=it:=by simpa using hb
  subst e
  obtain ⟨o,e,c,d⟩:=st
  exact ⟨o,e,fun v z=>by rw [d] at z; cases z⟩
 keep:=fun i h h' st k=>st.at fun o e=>k it (by simp) o e
 item:=by
  intro X hP hw hK hc i pins s σ H E I hf st hg
  subst hP hw hK
  obtain ⟨xs,x,hq,hx⟩:=hg
  obtain ⟨its,rv,p,hz⟩:=I.tuple hq
  obtain ⟨u,hu,ru⟩:=rv.get hx
  obtain ⟨f0,f1,f2,f3,f4,f5⟩:=hf it (by simp)
  refine wpAny_pyNext_tuple_item st (show s.heap.IsTuple a its.toArray from p) (x:=u) (by simpa using hu) fun h' st' sb=>?_
  have I1:Inv X pins σ H { s with heap:=h' }:=I.turned (t':=s.toks) (fun b o hb e=>(sb.2 b hb).trans e) f0 f1 f3 f4 f5
  obtain ⟨o,e,c,d⟩:=id st'
  exact ⟨u,rfl,OS (s:={ s with heap:=h' }) e c d (by decide) ⟨x,H,I1,ru,⟨rfl,fun ys hy=>by rw [I.lN hy hq]; exact hx⟩,st',fun b hb=>(hf b hb).1⟩⟩
 done:=by
  intro X hP hw hK hc i pins s σ H E I hf st hg
  subst hP hw hK
  obtain ⟨xs,hq,hx⟩:=hg
  obtain ⟨its,rv,p,hz⟩:=I.tuple hq
  obtain ⟨f0,f1,f2,f3,f4,f5⟩:=hf it (by simp)
  have hl:=rv.length
  exact wpAny_pyNext_tuple_end (I.ok.hd hc) st (show s.heap.IsTuple a its.toArray from p) (by simp; omega) fun h' eb=>⟨rfl,I.turned (t':=s.toks) (fun b o hb e=>eb b o hb e) f0 f1 f3 f4 f5⟩
 self:=fun _ _ _ _ _ st h=>wpAny_pyIter_tupleiter st h
theorem FI {P:Program} {w:World} {K:PySem.W.Frag} {tg:Expr} (it:Addr) (lo:Int) (n:Nat):Turn P w K tg (Itr lo n) [it] it (fun i h=>IsRangeIter h it (lo+(i:Nat)*1) ((n:Int) - (i:Nat)) 1) where
 mem:=by simp
 obj:=fun i h st b hb=>by
  have e:b=it:=by simpa using hb
  subst e
  exact ⟨_,st,fun v z=>by
   have z':Data.fields _=Data.cell v:=z
   cases z'⟩
 keep:=fun i h h' st k=>k it (by simp) _ st
 item:=by
  intro X hP hw hK hc i pins s σ H E I hf st hg
  subst hP hw hK
  obtain ⟨f0,f1,f2,f3,f4,f5⟩:=hf it (by simp)
  have W:=Walks.range (prog:=X.prog) (w:=X.w) (I.ok.hd hc) it lo 1 n
  refine W.item i s _ _ hg st fun v h' tk hv st' kk=>?_
  obtain ⟨t,rfl⟩:=hv
  have I1:Inv X pins σ H { s with heap:=h',toks:=tk }:=I.turned (fun b o hb e=>kk b o (by simpa using hb) e) f0 f1 f3 f4 f5
  refine ⟨_,rfl,OS (s:={ s with heap:=h',toks:=tk }) (n := "range_iterator") st' rfl rfl (by decide) ⟨.int (lo+i),H,I1,⟨t,?_⟩,⟨rfl,rfl⟩,st',fun b hb=>(hf b hb).1⟩⟩
  rw [Int.mul_one]
 done:=by
  intro X hP hw hK hc i pins s σ H E I hf st hg
  subst hP hw hK
  obtain ⟨f0,f1,f2,f3,f4,f5⟩:=hf it (by simp)
  exact wpAny_pyNext_range_end (I.ok.hd hc) st (by have:n<=i:=hg; omega) fun h' eb=>⟨rfl,I.turned (t':=s.toks) (fun b o hb e=>eb b o hb e) f0 f1 f3 f4 f5⟩
 self:=fun _ _ _ _ _ st h=>wpAny_pyIter_rangeiter st h
end L2
namespace L2
open PySem PySem.Spec PyProof.Rows
section
variable {X:Cx} {tg:Expr}
theorem OT {pins:List (Addr×Obj)} {σ:St} {H:Hp} {s:Shared} {R:It->Hp->Prop} {E:Value->Shared->Prop} {lo hi:Int} {t u v:Tok} {tk:Nat} (I:Inv X pins σ H s) (h1:-(2 ^ 62)<=lo) (h2:lo<2 ^ 62) (h3:-(2 ^ 62)<=hi) (h4:hi<2 ^ 62)
  (q:R (Itr lo (hi - lo).toNat) H):wpAny (model X.prog X.w) X.A (pyIter (.ref s.heap.objs.size)) (PIE X pins σ tg R) E { s with heap:=s.heap.push { cls:=.type "range",data:=.fields #[.int lo t,.int hi u,.int 1 v] },toks:=tk }:=by
 refine wpAny_pyIter_range (IsRange.new ..) (small_one h1 h2 h3 h4) ?_
 have I1:Inv X pins σ H { s with heap:=s.heap.push { cls:=.type "range",data:=.fields #[.int lo t,.int hi u,.int 1 v] },toks:=tk }:=I.kept fun b o e=>Heap.get?_push_of_some _ e
 refine ⟨(s.heap.push { cls:=.type "range",data:=.fields #[.int lo t,.int hi u,.int 1 v] }).objs.size,[(s.heap.push { cls:=.type "range",data:=.fields #[.int lo t,.int hi u,.int 1 v] }).objs.size],_,_,H,rfl,
  I1.kept (t':=tk) fun b o e=>Heap.get?_push_of_some _ e,FI _ lo (hi - lo).toNat,?_,fun b hb=>?_,q⟩
 ·have e1:lo+((0:Nat):Int)*1=lo:=by simp
  have e2:(((hi - lo).toNat:Nat):Int) - ((0:Nat):Int)=Builtin.Range.rangeSize lo hi 1:=by rw [rangeSize_one]; split<;>omega
  show IsRangeIter _ _ (lo+((0:Nat):Int)*1) ((((hi - lo).toNat:Nat):Int) - ((0:Nat):Int)) 1
  rw [e1,e2]
  exact Heap.get?_push_size _ rfl
 ·have e:b=(s.heap.push { cls:=.type "range",data:=.fields #[.int lo t,.int hi u,.int 1 v] }).objs.size:=by simpa using hb
  subst e
  exact I1.FG (Nat.le_refl _) (I1.hok.fresh (Nat.le_refl _))
noncomputable def aBY (ta:TA):TI:=fun σ H R=>ta σ H fun vs H1=>∃ j:Int,vs=[.int j] /\ -(2 ^ 62)<=j/\j<2 ^ 62/\R (Itr 0 j.toNat) H1
theorem KU {a:Expr} {ta:TA} {p pos:Pos} (hg:Gl X "range") (hm:X.mg "range" = none) (ha:PA X [a] ta) (hs:starEach [a] X.env=[(false,eval a X.env)]:=by rfl):PI X tg (.Call (.Name "range" p) [a] [] pos) (aBY ta):=by
 intro pins s σ H R I h
 refine Call_ (qG I hg hm boot_range (PyProof.Rows.callWith_type1 (eP (ha pos pins s σ H _ I h) fun us s1 ⟨vs,H1,I1,r1,q1⟩=>?_) hs rfl))
 obtain ⟨j,e,q1,q2,q⟩:=q1
 subst e
 cases r1 with
 | cons r rr =>
  cases rr
  obtain ⟨t,rfl⟩:=r
  exact call_range_1 (OT I1 (by omega) (by omega) q1 q2 (by simpa using q))
noncomputable def aFB (wi:TI) (g:TG) (tb:TS):TS:=fun D σ H=>wi σ H fun J H1=>∃ W:Nat->Nat->St->Hp->Prop,(∃ m,W 0 m σ H1) /\ ∀ i m σ H,W i m σ H ->
 (J.stop i H/\D.nx σ H)\/(J.go i H /\ ∃ N:St->Hp->Prop,(∀ σ' H',N σ' H' -> ∃ m',m'<m/\W (i+1) m' σ' H') /\ ∀ x H',J.yld i H x H'->g x σ H' fun σ2 H2=>tb { D with nx:=N,ct:=N,bk:=D.nx } σ2 H2)
noncomputable def uR (fp:List Addr) (h:Heap):List (Addr×Obj):=fp.filterMap fun b=>(h.get? b).map fun o=>(b,o)
theorem j4 {fp:List Addr} {h:Heap} {b:Addr} {o:Obj} (hb:b∈fp) (e:h.get? b=some o):(b,o)∈uR fp h:=List.mem_filterMap.mpr ⟨b,hb,by rw [e]; rfl⟩
theorem KW {fp:List Addr} {h:Heap} {p:Addr×Obj} (hp:p∈uR fp h):p.1∈fp/\h.get? p.1=some p.2:=by
 obtain ⟨b,hb,e⟩:=List.mem_filterMap.mp hp
 cases q:h.get? b with
 | none=>rw [q] at e; cases e
 | some o =>
  rw [q] at e
  have e':(b,o)=p:=Option.some.inj e
  subst e'
  exact ⟨hb,q⟩
theorem Inv.pinned {pins:List (Addr×Obj)} {σ:St} {H:Hp} {s:Shared} {fp:List Addr} (I:Inv X pins σ H s) (hf:∀ b∈fp,lY X pins H b) (ho:∀ b∈fp,∃ o,s.heap.get? b=some o /\ ∀ v,o.data≠.cell v):Inv X (pins++uR fp s.heap) σ H s :=
 I.IL fun p hp=>(List.mem_append.mp hp).elim (fun z=>I.pin p (List.mem_append_right _ z)) fun z=>by
  obtain ⟨hb,e⟩:=KW z
  obtain ⟨f0,f1,f2,_⟩:=hf p.1 hb
  obtain ⟨o,e',d⟩:=ho p.1 hb
  rw [e] at e'; cases e'
  exact ⟨e,f0,f1,f2,d⟩
theorem Inv.oN {pins pl:List (Addr×Obj)} {σ:St} {H:Hp} {s:Shared} (I:Inv X (pins++pl) σ H s):Inv X pins σ H s:=I.IL fun p hp=>I.pin p (List.mem_append_right _ (List.mem_append_left _ hp))
theorem YR {iter:Expr} {body:List Stmt} {wi:TI} {g:TG} {tb:TS} {pos:Pos} (hp:PassesOwn (model X.prog X.w) X.A X.env X.xe) (hc:X.calm=true) (hi:PI X tg iter wi) (hg:PG X tg g) (hb:FF X body tb)
  (hs:∀ x,foldedSetIterable iter X.env x=pure x:=by intro _; rfl):PS X (.For tg iter body [] pos) (aFB wi g tb):=by
 intro pins s σ H D I h
 refine wpAny_For (eP (hi pins s σ H _ I h) fun v s1 h1=>eP h1 fun itv s2 h2=>?_) hs
 obtain ⟨it,fp,tn,J,H2,e,I2,T,st2,f2,W,⟨m0,w0⟩,turn⟩:=h2
 subst e
 -- what stays true of the iterator's objects through the loop
 have stat:∀ {H':Hp},(∀ b∈fp,H' b=none) -> ∀ b∈fp,lY X pins H' b:=fun hn b hb=>⟨hn b hb,(f2 b hb).2⟩
 refine codeAny_forLoop_any (fun n s'=>∃ i σ' H',Inv X pins σ' H' s'/\tn i s'.heap/\(∀ b∈fp,H' b=none)/\W i n σ' H') ?_ m0 ⟨0,σ,H2,I2,st2,fun b hb=>(f2 b hb).1,w0⟩
 rintro n s3 ⟨i,σ3,H3,I3,st3,fr3,w3⟩
 rcases turn i n σ3 H3 w3 with ⟨stop,qn⟩ | ⟨go,N,hN,step⟩
 ·refine wpAny_passesOwn hp (eP (T.done X rfl rfl rfl hc i pins s3 σ3 H3 X.xe I3 (stat fr3) st3 stop) fun r s4 ⟨hr,I4⟩=>?_)
  subst hr
  exact wpAny_execs_nil ⟨σ3,H3,I4,qn⟩
 ·refine wpAny_passesOwn hp (eP (T.item X rfl rfl rfl hc i pins s3 σ3 H3 X.xe I3 (stat fr3) st3 go) fun r s4 ⟨u,hr,h4⟩=>?_)
  subst hr
  refine wpAny_passesOwn hp (eP h4 fun _ s5 ⟨x,H5,I5,r5,y5,st5,fr5⟩=>?_)
  have I5':=I5.pinned (stat fr5) (T.obj _ _ st5)
  refine wpAny_passesOwn hp (eP (hg _ s5 σ3 H5 x u _ I5' r5 (step x H5 y5)) fun _ s6 ⟨σ6,H6,I6,q6⟩=>?_)
  refine wpAny_passesOwn hp (eP (hb _ s6 σ6 H6 _ I6 q6) fun f s7 q7=>?_)
  have again:∀ {σ7:St} {H7:Hp},Inv X (pins++uR fp s5.heap) σ7 H7 s7->N σ7 H7 -> ∃ m,m<n /\ ∃ i σ' H',Inv X pins σ' H' s7/\tn i s7.heap/\(∀ b∈fp,H' b=none)/\W i m σ' H':=fun {σ7 H7} I7 n7=>by
   obtain ⟨m',hm,w7⟩:=hN σ7 H7 n7
   refine ⟨m',hm,i+1,σ7,H7,I7.oN,T.keep _ _ _ st5 fun b hb o e=>(I7.pin (b,o) (List.mem_append_right _ (List.mem_append_right _ (j4 hb e)))).1,fun b hb=>?_,w7⟩
   obtain ⟨o,e,d⟩:=T.obj _ _ st5 b hb
   exact (I7.pin (b,o) (List.mem_append_right _ (List.mem_append_right _ (j4 hb e)))).2.1
  cases f with
  | next=>obtain ⟨σ7,H7,I7,n7⟩:=q7; exact again I7 n7
  | cont=>obtain ⟨σ7,H7,I7,n7⟩:=q7; exact again I7 n7
  | brk=>obtain ⟨σ7,H7,I7,q7⟩:=q7; exact ⟨σ7,H7,I7.oN,q7⟩
  | ret v=>obtain ⟨x7,σ7,H7,I7,r7,q7⟩:=q7; exact ⟨x7,σ7,H7,I7.oN,r7,q7⟩
end
end L2
namespace L2
open PySem PySem.Spec PyProof.Rows
noncomputable abbrev R2:=V->V->Hp->VK->Prop
noncomputable def iT (X:Cx) (f:Value->Value->Sem Value) (r:R2):Prop :=
 ∀ (pins:List (Addr×Obj)) (s:Shared) (σ:St) (H:Hp) (x y:V) (v u:Value) (Q:VK),Inv X pins σ H s->RelV x v->RelV y u->r x y H Q ->
  wpAny (model X.prog X.w) X.A (f v u) (EP X pins σ Q) X.xe s
noncomputable def UnR (X:Cx) (f:Value->Sem Value) (r:V->Hp->VK->Prop):Prop :=
 ∀ (pins:List (Addr×Obj)) (s:Shared) (σ:St) (H:Hp) (x:V) (v:Value) (Q:VK),Inv X pins σ H s->RelV x v->r x H Q ->
  wpAny (model X.prog X.w) X.A (f v) (EP X pins σ Q) X.xe s
noncomputable def fK (X:Cx) (f:Value) (r:List V->Hp->VK->Prop):Prop :=
 ∀ (pins:List (Addr×Obj)) (s:Shared) (σ:St) (H:Hp) (xs:List V) (us:List Value) (Q:VK),Inv X pins σ H s->Vals xs us->r xs H Q ->
  wpAny (model X.prog X.w) X.A (call f us) (EP X pins σ Q) X.xe s
noncomputable def aFE (X:Cx) (r:V->Hp->(Bool->Hp->Prop)->Prop):Prop :=
 ∀ (pins:List (Addr×Obj)) (s:Shared) (σ:St) (H:Hp) (x:V) (v:Value) (Q:Bool->Hp->Prop),Inv X pins σ H s->RelV x v->r x H Q ->
  wpAny (model X.prog X.w) X.A (truthy v) (TP X pins σ Q) X.xe s
noncomputable def tOp (r:R2) (ta tb:TE):TE:=fun σ H Q=>ta σ H fun x H1=>tb σ H1 fun y H2=>r x y H2 Q
noncomputable def tUn (r:V->Hp->VK->Prop) (ta:TE):TE:=fun σ H Q=>ta σ H fun x H1=>r x H1 Q
noncomputable def rI (C:Int->Int->Prop) (g:Int->Int->V):R2:=fun x y H Q=>∃ i j,x=.int i/\y=.int j/\C i j/\Q (g i j) H
noncomputable def KY (g:Int->Int->V):R2:=fun x y H Q=>∃ i j,x=.int i/\y=.int j/\Q (g i j) H
noncomputable def rU (g:Int->V):V->Hp->VK->Prop:=fun x H Q=>∃ i,x=.int i/\Q (g i) H
section
variable {X:Cx} {a b c:Expr} {ta tb tc:TE} {pos:Pos}
theorem YS (ha:PE X a ta) (hb:PE X b tb) {pins:List (Addr×Obj)} {s:Shared} {σ:St} {H:Hp} {R:V->V->Hp->Prop} (I:Inv X pins σ H s)
  (h:ta σ H fun x H1=>tb σ H1 fun y H2=>R x y H2) {Q:Value->Shared->Prop} {f:Value->Value->Sem Value}
  (hf:∀ v u s2 x y H2,Inv X pins σ H2 s2->RelV x v->RelV y u->R x y H2->wpAny (model X.prog X.w) X.A (f v u) Q X.xe s2) :
  wpAny (model X.prog X.w) X.A (eval a X.env) (fun v s₁=>wpAny (model X.prog X.w) X.A (eval b X.env) (fun u s₂=>wpAny (model X.prog X.w) X.A (f v u) Q X.xe s₂) X.xe s₁) X.xe s:=by
 refine eP (ha pins s σ H _ I h) fun v s1 hq1=>?_
 obtain ⟨x,H1,I1,r1,q1⟩:=hq1
 refine eP (hb pins s1 σ H1 _ I1 q1) fun u s2 hq2=>?_
 obtain ⟨y,H2,I2,r2,q2⟩:=hq2
 exact hf v u s2 x y H2 I2 r1 r2 q2
theorem IS {op:Operator} {r:R2} (ho:iT X (binaryOp op) r) (ha:PE X a ta) (hb:PE X b tb):PE X (.BinOp a op b pos) (tOp r ta tb):=by
 intro pins s σ H Q I h
 exact wpAny_BinOp (YS ha hb I h fun v u s2 x y H2 I2 rx ry q=>ho pins s2 σ H2 x y v u Q I2 rx ry q)
theorem aB1 {op:UnaryOp} {r:V->Hp->VK->Prop} (ho:UnR X (unaryOp op) r) (ha:PE X a ta):PE X (.UnaryOp op a pos) (tUn r ta):=by
 intro pins s σ H Q I h
 exact UnaryOp_ (eP (ha pins s σ H _ I h) fun v s1 ⟨x,H1,I1,r1,q1⟩=>ho pins s1 σ H1 x v Q I1 r1 q1)
theorem opI {f:Value->Value->Sem Value} {C:Int->Int->Prop} {g:Int->Int->Int}
  (rule:∀ (i j:Int) (t u:Tok) (s:Shared) (Q:Value->Shared->Prop) (E:Value->Shared->Prop),C i j->Q (.int (g i j) s.toks) { s with toks:=s.toks+1 }->wpAny (model X.prog X.w) X.A (f (.int i t) (.int j u)) Q E s) :
  iT X f (rI C fun i j=>.int (g i j)):=by
 intro pins s σ H x y v u Q I rx ry h
 obtain ⟨i,j,rfl,rfl,hc,q⟩:=h
 obtain ⟨t,rfl⟩:=rx
 obtain ⟨t',rfl⟩:=ry
 exact rule i j t t' s _ _ hc ⟨.int (g i j),H,I.tok _,⟨_,rfl⟩,q⟩
theorem aB2 {f:Value->Value->Sem Value} {g:Int->Int->Int}
  (rule:∀ (i j:Int) (t u:Tok) (s:Shared) (Q:Value->Shared->Prop) (E:Value->Shared->Prop),Q (.int (g i j) s.toks) { s with toks:=s.toks+1 }->wpAny (model X.prog X.w) X.A (f (.int i t) (.int j u)) Q E s) :
  iT X f (KY fun i j=>.int (g i j)):=by
 intro pins s σ H x y v u Q I rx ry h
 obtain ⟨i,j,rfl,rfl,q⟩:=h
 obtain ⟨t,rfl⟩:=rx
 obtain ⟨t',rfl⟩:=ry
 exact rule i j t t' s _ _ ⟨.int (g i j),H,I.tok _,⟨_,rfl⟩,q⟩
theorem T5 {f:Value->Value->Sem Value} {g:Int->Int->Bool}
  (rule:∀ (i j:Int) (t u:Tok) (s:Shared) (Q:Value->Shared->Prop) (E:Value->Shared->Prop),Q (.bool (g i j)) s->wpAny (model X.prog X.w) X.A (f (.int i t) (.int j u)) Q E s) :
  iT X f (KY fun i j=>.bl (g i j)):=by
 intro pins s σ H x y v u Q I rx ry h
 obtain ⟨i,j,rfl,rfl,q⟩:=h
 obtain ⟨t,rfl⟩:=rx
 obtain ⟨t',rfl⟩:=ry
 exact rule i j t t' s _ _ ⟨.bl (g i j),H,I,rfl,q⟩
noncomputable def aB3 (i j:Int):Prop:=0<j/\j<1073741824
noncomputable def aB4 (i j:Int):Prop:=0<=j/\j<=1000000/\i.natAbs<2 ^ 64
noncomputable def T6 (i j:Int):Prop:=(-(2 ^ 64)<i/\i<2 ^ 64)\/(-(2 ^ 64)<j/\j<2 ^ 64)
theorem T6.ok {i j:Int} (h:T6 i j):IntMulOk i j:=by
 rcases h with ⟨h1,h2⟩ | ⟨h1,h2⟩
 ·exact .of_left (intBits_le_64 h1 h2)
 ·exact .of_right (intBits_le_64 h1 h2)
theorem YT:iT X (binaryOp .Add) (KY fun i j=>.int (i+j)):=aB2 fun _ _ _ _ _ _ _ q=>add_int q
theorem YU:iT X (binaryOp .Sub) (KY fun i j=>.int (i - j)):=aB2 fun _ _ _ _ _ _ _ q=>sub_int q
theorem T7:iT X (binaryOp .FloorDiv) (rI aB3 fun i j=>.int (i / j)):=opI fun i j _ _ _ _ _ hc q=>by
 have h1:(0:Int)<j:=hc.1
 have h2:j<1073741824:=hc.2
 exact floordiv_int (by omega) (by rw [Int.fdiv_eq_ediv_of_nonneg i (by omega)]; exact q) (.inl (PyProof.noPylong_small (by omega)))
theorem YV:iT X (binaryOp .Mod) (rI (fun _ j=>0<j) fun i j=>.int (i % j)):=opI fun i j _ _ _ _ _ hc q=>by
 have h1:(0:Int)<j:=hc
 exact mod_int' (by omega) (by rw [Int.fmod_eq_emod_of_nonneg i (by omega)]; exact q)
theorem YW:iT X (binaryOp .Pow) (rI aB4 fun i j=>.int (i ^ j.toNat)):=opI fun _ _ _ _ _ _ _ hc q=>pow_int_small hc.1 hc.2.1 hc.2.2 q
theorem unI {f:Value->Sem Value} {g:Int->Int}
  (rule:∀ (i:Int) (t:Tok) (s:Shared) (Q:Value->Shared->Prop) (E:Value->Shared->Prop),Q (.int (g i) s.toks) { s with toks:=s.toks+1 }->wpAny (model X.prog X.w) X.A (f (.int i t)) Q E s) :
  UnR X f (rU fun i=>.int (g i)):=by
 intro pins s σ H x v Q I rx h
 obtain ⟨i,rfl,q⟩:=h
 obtain ⟨t,rfl⟩:=rx
 exact rule i t s _ _ ⟨.int (g i),H,I.tok _,⟨_,rfl⟩,q⟩
theorem YX:UnR X (unaryOp .USub) (rU fun i=>.int (-i)):=unI fun _ _ _ _ _ q=>neg_int q
end
noncomputable def YY:V->V->Bool
 | .non,.non=>true | .non,.int _=>true | .int _,.non=>true | .non,.bl _=>true | .bl _,.non=>true | .non,.str _=>true | .str _,.non=>true
 | .int _,.int _=>true | .bl _,.bl _=>true | .str _,.str _=>true | .KP _,.KP _=>true
 | .int _,.str _=>true | .str _,.int _=>true | .bl _,.str _=>true | .str _,.bl _=>true
 | _,_=>false
noncomputable def rEq:R2:=fun x y H Q=>YY x y=true/\Q (.bl (decide (x=y))) H
noncomputable def rNe:R2:=fun x y H Q=>YY x y=true/\Q (.bl (!decide (x=y))) H
theorem AI {i j:Int}:decide (V.int i=V.int j)=(i == j):=by
 rw [Bool.eq_iff_iff]
 simp
theorem FJ {i j:Bool}:decide (V.bl i=V.bl j)=(i == j):=by
 rw [Bool.eq_iff_iff]
 simp
theorem AJ {i j:Str}:decide (V.str i=V.str j)=(i == j):=by
 rw [Bool.eq_iff_iff]
 simp
theorem IT {i j:Array UInt8}:decide (V.KP i=V.KP j)=(i.toList == j.toList):=by
 rw [Bool.eq_iff_iff]
 cases i
 cases j
 simp
section
variable {X:Cx} {a b c:Expr} {ta tb tc:TE} {pos:Pos}
theorem bP {pins:List (Addr×Obj)} {σ:St} {H:Hp} {s:Shared} {Q:VK} {k k':Bool} (I:Inv X pins σ H s) (q:Q (.bl k) H) (e:k=k'):EP X pins σ Q (.bool k') s:=by
 subst e
 exact ⟨.bl k,H,I,rfl,q⟩
theorem WJ:iT X (compareOp .Eq) rEq:=by
 intro pins s σ H x y v u Q I rx ry h
 obtain ⟨hs,q⟩:=h
 cases x with
 | non =>
  cases rx
  cases y with
  | non=>cases ry; exact PySem.EqNone.eq_none_none (bP I q (by simp))
  | bl j=>cases ry; exact PySem.EqNone.eq_none_bool (bP I q (by simp))
  | int j=>obtain ⟨t',rfl⟩:=ry; exact PySem.EqNone.eq_none_int (bP I q (by simp))
  | str j=>obtain ⟨t',rfl⟩:=ry; exact PySem.EqNone.eq_none_str (bP I q (by simp))
  | _=>exact absurd (show false=true from hs) Bool.false_ne_true
 | bl i =>
  cases rx
  cases y with
  | non=>cases ry; exact PySem.EqNone.eq_bool_none (bP I q (by simp))
  | bl j=>cases ry; exact eq_bool (bP I q FJ)
  | str j=>obtain ⟨t',rfl⟩:=ry; exact PySem.EqMixed.eq_bool_str (bP I q (by simp))
  | _=>exact absurd (show false=true from hs) Bool.false_ne_true
 | int i =>
  obtain ⟨t,rfl⟩:=rx
  cases y with
  | non=>cases ry; exact PySem.EqNone.eq_int_none (bP I q (by simp))
  | int j=>obtain ⟨t',rfl⟩:=ry; exact eq_int (bP I q AI)
  | str j=>obtain ⟨t',rfl⟩:=ry; exact PySem.EqMixed.eq_int_str (bP I q (by simp))
  | _=>exact absurd (show false=true from hs) Bool.false_ne_true
 | str i =>
  obtain ⟨t,rfl⟩:=rx
  cases y with
  | non=>cases ry; exact PySem.EqNone.eq_str_none (bP I q (by simp))
  | bl j=>cases ry; exact PySem.EqMixed.eq_str_bool (bP I q (by simp))
  | int j=>obtain ⟨t',rfl⟩:=ry; exact PySem.EqMixed.eq_str_int (bP I q (by simp))
  | str j=>obtain ⟨t',rfl⟩:=ry; exact eq_str (bP I q AJ)
  | _=>exact absurd (show false=true from hs) Bool.false_ne_true
 | KP i =>
  obtain ⟨t,rfl⟩:=rx
  cases y with
  | KP j=>obtain ⟨t',rfl⟩:=ry; exact PySem.W.eq_bytes (bP I q IT)
  | _=>exact absurd (show false=true from hs) Bool.false_ne_true
 | _=>cases y<;>exact absurd (show false=true from hs) Bool.false_ne_true
theorem aB5:iT X (compareOp .NotEq) rNe:=by
 intro pins s σ H x y v u Q I rx ry h
 obtain ⟨hs,q⟩:=h
 cases x with
 | non =>
  cases rx
  cases y with
  | non=>cases ry; exact PySem.EqNone.ne_none_none (bP I q (by simp))
  | bl j=>cases ry; exact PySem.EqNone.ne_none_bool (bP I q (by simp))
  | int j=>obtain ⟨t',rfl⟩:=ry; exact PySem.EqNone.ne_none_int (bP I q (by simp))
  | str j=>obtain ⟨t',rfl⟩:=ry; exact PySem.EqNone.ne_none_str (bP I q (by simp))
  | _=>exact absurd (show false=true from hs) Bool.false_ne_true
 | bl i =>
  cases rx
  cases y with
  | non=>cases ry; exact PySem.EqNone.ne_bool_none (bP I q (by simp))
  | bl j=>cases ry; exact ne_bool (bP I q (congrArg not FJ))
  | str j=>obtain ⟨t',rfl⟩:=ry; exact PySem.EqMixed.ne_bool_str (bP I q (by simp))
  | _=>exact absurd (show false=true from hs) Bool.false_ne_true
 | int i =>
  obtain ⟨t,rfl⟩:=rx
  cases y with
  | non=>cases ry; exact PySem.EqNone.ne_int_none (bP I q (by simp))
  | int j=>obtain ⟨t',rfl⟩:=ry; exact ne_int (bP I q (congrArg not AI))
  | str j=>obtain ⟨t',rfl⟩:=ry; exact PySem.EqMixed.ne_int_str (bP I q (by simp))
  | _=>exact absurd (show false=true from hs) Bool.false_ne_true
 | str i =>
  obtain ⟨t,rfl⟩:=rx
  cases y with
  | non=>cases ry; exact PySem.EqNone.ne_str_none (bP I q (by simp))
  | bl j=>cases ry; exact PySem.EqMixed.ne_str_bool (bP I q (by simp))
  | int j=>obtain ⟨t',rfl⟩:=ry; exact PySem.EqMixed.ne_str_int (bP I q (by simp))
  | str j=>obtain ⟨t',rfl⟩:=ry; exact ne_str (bP I q (congrArg not AJ))
  | _=>exact absurd (show false=true from hs) Bool.false_ne_true
 | KP i =>
  obtain ⟨t,rfl⟩:=rx
  cases y with
  | KP j=>obtain ⟨t',rfl⟩:=ry; exact PySem.W.ne_bytes (bP I q (congrArg not IT))
  | _=>exact absurd (show false=true from hs) Bool.false_ne_true
 | _=>cases y<;>exact absurd (show false=true from hs) Bool.false_ne_true
theorem WK:iT X (compareOp .Lt) (KY fun i j=>.bl (decide (i<j))):=T5 fun _ _ _ _ _ _ _ q=>lt_int q
theorem aB6:iT X (compareOp .LtE) (KY fun i j=>.bl (decide (i<=j))):=T5 fun _ _ _ _ _ _ _ q=>le_int q
theorem aB7:iT X (compareOp .Gt) (KY fun i j=>.bl (decide (j<i))):=T5 fun _ _ _ _ _ _ _ q=>gt_int q
theorem aB8:iT X (compareOp .GtE) (KY fun i j=>.bl (decide (j<=i))):=T5 fun _ _ _ _ _ _ _ q=>ge_int q
theorem KZ:iT X (compareOp .In) (fun x y H Q=>∃ i j,x=.str i/\y=.str j/\Q (.bl (!(Builtin.Str.occurrences j i 0 j.length 1).isEmpty)) H):=by
 intro pins s σ H x y v u Q I rx ry h
 obtain ⟨i,j,rfl,rfl,q⟩:=h
 obtain ⟨t,rfl⟩:=rx
 obtain ⟨t',rfl⟩:=ry
 exact in_str (bP I q rfl)
theorem OU:iT X (compareOp .Is) (fun x y H Q=>y=.non/\Q (.bl (decide (x=.non))) H):=by
 intro pins s σ H x y v u Q I rx ry h
 obtain ⟨rfl,q⟩:=h
 cases ry
 refine is_none_gen (bP I q ?_)
 cases x<;>first
  | (cases rx; rfl)
  | (obtain ⟨t,rfl⟩:=rx; rfl)
theorem iT.or {f:Value->Value->Sem Value} {r r':R2} (h:iT X f r) (h':iT X f r'):iT X f (fun x y H Q=>r x y H Q\/r' x y H Q):=by
 intro pins s σ H x y v u Q I rx ry q
 rcases q with q | q
 ·exact h pins s σ H x y v u Q I rx ry q
 ·exact h' pins s σ H x y v u Q I rx ry q
theorem kO (b:Expr) {op:CmpOp} (h:op≠.In:=by decide) (h2:op≠.NotIn:=by decide):behindInMarks op b=false:=by
 have e1:(op == CmpOp.In)=false:=by cases op<;>first | rfl | exact absurd rfl h
 have e2:(op == CmpOp.NotIn)=false:=by cases op<;>first | rfl | exact absurd rfl h2
 cases b<;>simp [behindInMarks,e1,e2]
theorem T8 {op:CmpOp} {r:R2} (ho:iT X (compareOp op) r) (ha:PE X a ta) (hb:PE X b tb) (hm:behindInMarks op b=false):PE X (.Compare a [op] [b] pos) (tOp r ta tb):=by
 intro pins s σ H Q I h
 exact wpAny_Compare1 (YS ha hb I h fun v u s2 x y H2 I2 rx ry q=>ho pins s2 σ H2 x y v u Q I2 rx ry q) hm
noncomputable def IU (t:TE):TT:=fun σ H Q=>t σ H fun x H'=>∃ k,x=.bl k/\Q k H'
theorem T9 {op:CmpOp} {r:R2} (ho:iT X (compareOp op) r) (ha:PE X a ta) (hb:PE X b tb) (hm:behindInMarks op b=false):PT X (.Compare a [op] [b] pos) (IU (tOp r ta tb)):=by
 intro pins s σ H Q I h
 refine wpAny_isTrue_Compare1 (eP (ha pins s σ H _ I h) fun v s1 ⟨x,H1,I1,r1,q1⟩=>eP (hb pins s1 σ H1 _ I1 q1) fun u s2 ⟨y,H2,I2,r2,q2⟩ =>
  eP (ho pins s2 σ H2 x y v u _ I2 r1 r2 q2) fun c s3 ⟨z,H3,I3,r3,k,e,q3⟩=>?_) hm
 subst e
 cases r3
 exact wpAny_truthy_bool ⟨H3,I3,q3⟩
noncomputable def OV (r r':R2) (ta tb tc:TE):TE:=fun σ H Q=>ta σ H fun x H1=>tb σ H1 fun y H2=>r x y H2 fun z H3=>∃ k,z=.bl k /\
 (if k=true then tc σ H3 fun w' H4=>r' y w' H4 Q else Q (.bl false) H3)
theorem OW {op op':CmpOp} {r r':R2} (ho:iT X (compareOp op) r) (ho':iT X (compareOp op') r') (ha:PE X a ta) (hb:PE X b tb) (hc:PE X c tc)
  (hm:lastMarks [op,op'] [b,c]=false:=by with_unfolding_all rfl):PE X (.Compare a [op,op'] [b,c] pos) (OV r r' ta tb tc):=by
 intro pins s σ H Q I h
 refine Compare_chain (eP (ha pins s σ H _ I h) fun v s1 ⟨x,H1,I1,r1,q1⟩=>chain_link (eP (hb pins s1 σ H1 _ I1 q1) fun u s2 ⟨y,H2,I2,r2,q2⟩ =>
  eP (ho pins s2 σ H2 x y v u _ I2 r1 r2 q2) fun d s3 ⟨z,H3,I3,r3,k,e,q3⟩=>?_)) hm
 subst e
 cases r3
 refine wpAny_truthy_bool ?_
 cases k with
 | false=>exact ite_ff ⟨.bl false,H3,I3,rfl,q3⟩
 | true=>exact ite_tt (chain_last (eP (hc pins s3 σ H3 _ I3 q3) fun w' s4 ⟨z',H4,I4,r4,q4⟩=>ho' pins s4 σ H4 y z' u w' Q I4 r2 r4 q4))
noncomputable def aB9 (K:PySem.W.Frag) (x:V) (H:Hp) (k:Bool):Prop :=
 match x with
 | .non=>k=false
 | .bl b=>k=b
 | .int i=>k=(i != 0)
 | .str y=>y.length<=sizeLine/\k=((y.length:Int) != 0)
 | .KP y=>y.size<=sizeLine/\k=((y.size:Int) != 0)
 | .ref p=>(∃ xs,fS K H p xs/\k=!xs.isEmpty)\/(∃ xs,fU K H p xs/\k=!xs.isEmpty) \/ ∃ kvs,H p=some (.dK kvs)/\k=!kvs.isEmpty
 | _=>False
theorem FK {κ:Type} {kvs:List (κ×V)} {vs:List (κ×Value)} (r:KV kvs vs):(!vs.isEmpty)=!kvs.isEmpty:=by
 cases r<;>rfl
theorem j5 {xs:List V} {its:List Value} (r:Vals xs its):(!its.toArray.isEmpty)=!xs.isEmpty:=by
 cases r<;>simp
theorem qH:(sizeLine:Nat)<2 ^ 63:=by rw [sizeLine_eq]; decide
theorem YZ:aFE X (fun x H Q=>∃ k,aB9 X.K x H k/\Q k H):=by
 intro pins s σ H x v Q I rx h
 obtain ⟨k,e,q⟩:=h
 have hl:=qH
 have hs:sizeLine=16777216:=sizeLine_eq
 cases x with
 | non =>
  cases rx
  have e':k=false:=e
  subst e'
  exact truthy_none ⟨H,I,q⟩
 | bl b =>
  cases rx
  have e':k=b:=e
  subst e'
  exact wpAny_truthy_bool ⟨H,I,q⟩
 | int i =>
  obtain ⟨t,rfl⟩:=rx
  have e':k=(i != 0):=e
  subst e'
  exact PySem.P.truthy_int ⟨H,I,q⟩
 | str y =>
  obtain ⟨t,rfl⟩:=rx
  obtain ⟨hy,e'⟩:y.length<=sizeLine/\k=((y.length:Int) != 0):=e
  subst e'
  exact PySem.P.truthy_str (by omega) ⟨H,I.tok _,q⟩
 | KP y =>
  obtain ⟨t,rfl⟩:=rx
  obtain ⟨hy,e'⟩:y.size<=sizeLine/\k=((y.size:Int) != 0):=e
  subst e'
  exact PySem.W.truthy_bytes (by omega) ⟨H,I.tok _,q⟩
 | ref p =>
  cases rx
  have e':(∃ xs,fS X.K H p xs/\k=!xs.isEmpty)\/(∃ xs,fU X.K H p xs/\k=!xs.isEmpty) \/ ∃ kvs,H p=some (.dK kvs)/\k=!kvs.isEmpty:=e
  rcases e' with ⟨xs,hx,e'⟩ | ⟨xs,hx,e'⟩ | ⟨kvs,hx,e'⟩
  ·subst e'
   obtain ⟨its,r,pl,hz⟩:=I.list hx
   have hlen:=r.length
   exact wpAny_truthy_list pl.isList (by simp only [List.size_toArray]; omega) ⟨H,I.tok _,by rw [j5 r]; exact q⟩
  ·subst e'
   obtain ⟨its,r,pl,hz⟩:=I.tuple hx
   have hlen:=r.length
   exact truthy_tuple pl (by simp only [List.size_toArray]; omega) ⟨H,I.tok _,by rw [j5 r]; exact q⟩
  ·subst e'
   obtain ⟨hz,hS,vs,r,m⟩:kvs.length<=sizeLine/\(p == sysModules)=false /\ ∃ vs,KV kvs vs/\s.heap.DictOf (bB X.prog X.w) p vs:=I.hok p _ hx
   have hlen:kvs.length=vs.length:=Paired.length r
   exact wpAny_truthy_dict hS m (by omega) ⟨H,I.tok _,by rw [FK r]; exact q⟩
 | _=>exact (show False from e).elim
theorem OX (ha:PE X a ta) (he:∀ whole,isTrue a X.env whole=(do let v <- whole; standAt a.pos; holding [v] (truthy v))) :
  PT X a (fun σ H Q=>ta σ H fun x H'=>∃ k,aB9 X.K x H' k/\Q k H'):=by
 intro pins s σ H Q I h
 exact isTrue_plain (eP (ha pins s σ H _ I h) fun v s1 ⟨x,H1,I1,r1,q1⟩=>YZ pins s1 σ H1 x v Q I1 r1 q1) (he _)
theorem uS:iT X (binaryOp .Add) (fun x y H Q=>∃ i j,x=.str i/\y=.str j/\i.length+j.length<=sizeLine/\Q (.str (i++j)) H):=by
 intro pins s σ H x y v u Q I rx ry h
 obtain ⟨i,j,rfl,rfl,hz,q⟩:=h
 obtain ⟨t,rfl⟩:=rx
 obtain ⟨t',rfl⟩:=ry
 exact add_str (fun t' tk=>⟨.str (i++j),H,I.tok _,⟨_,rfl⟩,q⟩) hz
theorem vals1 {x:V} {us:List Value} (r:Vals [x] us):∃ u,us=[u]/\RelV x u:=by
 cases r with
 | cons r1 r2=>cases r2; exact ⟨_,rfl,r1⟩
theorem vals2 {x y:V} {us:List Value} (r:Vals [x,y] us):∃ u w',us=[u,w']/\RelV x u/\RelV y w':=by
 cases r with
 | cons r1 r2 =>
  cases r2 with
  | cons r3 r4=>cases r4; exact ⟨_,_,rfl,r1,r3⟩
theorem AK:fK X (.type "str") (fun xs H Q=>∃ i,xs=[.int i]/\i.natAbs.log2<1920/\Q (.str (toString i)) H):=by
 intro pins s σ H xs us Q I r h
 obtain ⟨i,rfl,hz,q⟩:=h
 obtain ⟨u,rfl,t,rfl⟩:=vals1 r
 exact PySem.P.str_of_int hz ⟨.str _,H,I.tok _,⟨_,rfl⟩,q⟩
end
end L2
namespace L2
open PySem PySem.Spec PyProof.Rows
structure Y0 (h:Heap) (x dx C:Addr) (mA:Str->Option Value):Prop where
 obj:h.get? x=some (PySem.W.instObj C dx)
 ns:h.Ns1 dx mA
 ne:dx≠x
theorem K0 {h:Heap} {dx:Addr} {mA:Str->Option Value} (n:h.Ns1 dx mA):∃ od,h.get? dx=some od /\ ∀ name,PySem.W.lookIn name od=some (mA name):=by
 obtain ⟨o,es,ep,ho,hd,hk,_,hm⟩:=n
 refine ⟨o,ho,fun name=>?_⟩
 have e:=hm name
 unfold nsFind findBy at e
 rw [<- Array.find?_toList] at e
 unfold PySem.W.lookIn
 rw [hd]
 dsimp only
 split
 ·rename_i y q
  rw [q] at e
  exact congrArg some e
 ·rename_i q
  rw [q] at e
  have a:es.toList.any (·.refKey)=false:=by
   rw [List.any_eq_false]
   intro y hy
   obtain ⟨z,t,hkey⟩:=hk y (Array.mem_toList_iff.mp hy)
   simp [DictEntry.refKey,hkey]
  have a':¬ es.toList.any (·.refKey)=true:=by rw [a]; exact Bool.false_ne_true
  rw [if_neg a']
  exact congrArg some e
theorem Y0.look {h:Heap} {x dx C:Addr} {mA:Str->Option Value} (I:Y0 h x dx C mA):∃ od,PySem.W.InstAt h x (PySem.W.instObj C dx) C (some od) /\ ∀ name,PySem.W.lookIn name od=some (mA name) :=
 let ⟨od,ho,hl⟩:=K0 I.ns
 ⟨od,⟨I.obj,rfl,rfl,ho⟩,hl⟩
section
variable {prog:Program} {w:World} {A:Around} {E:Value->Shared->Prop} {s:Shared} {K:PySem.W.Frag} {x dx C f:Addr} {mA:Str->Option Value} {name:Str} {v:Value}
end
theorem nG.some_of {v:V} {o:Option Value} (r:nG (some v) o):∃ u,o=some u/\RelV v u:=by
 cases o with
 | none=>exact (show False from r).elim
 | some u=>exact ⟨u,rfl,r⟩
section
variable {P:Program} {w:World} {H H':Hp} {h h':Heap} {a C dx:Addr} {fs fs':List (Str×V)}
theorem UA (hok:nH P w H h) (e:H a=some (.ins C dx fs)):∃ mA,Y0 h a dx C mA/\(∀ f,nG (fs.lookup f) (mA f))/\PySem.Within mA (fs.map (·.1))/\fs.length<=1000/\H dx=some (.own a):=by
 obtain ⟨d,z,ne,ob,mA,n,r,q⟩:=(show dA P w H h a (.ins C dx fs) from hok a _ e)
 exact ⟨mA,⟨ob,n,ne⟩,r,q,z,d⟩
end
structure Cls (K:PySem.W.Frag) (C:Addr):Prop where
 pg:PySem.W.plainGet K C Str.empty=true
 hd:PySem.W.hasDictIn K C=true
 po:PySem.W.plainOver K C=true
 sa:PySem.W.findIn K (.ref C) "__setattr__" = some (some (.builtin "object.__setattr__"))
theorem Cls.get {K:PySem.W.Frag} {C:Addr} (c:Cls K C) (f:Str):PySem.W.plainGet K C f=true:=c.pg
structure Con (K:PySem.W.Frag) (C:Addr) (f:Str) (v:V) (u:Value):Prop where
 at_:PySem.W.findIn K (.ref C) f=some (some u)
 rel:RelV v u
 get:PySem.W.specialIn K u "__get__" = some none
 cp:PySem.W.copiedNames.contains f=false
section
variable {X:Cx} {pins:List (Addr×Obj)} {σ:St} {H:Hp} {s:Shared} {a C dx:Addr} {fs:List (Str×V)} {f:Str} {v:V} {A:Around} {E:Value->Shared->Prop}
end
section
variable {X:Cx} {o e value:Expr} {f:Str} {pos pos' tpos:Pos} {ta tv:TE}
end
section
variable {X:Cx} {pins:List (Addr×Obj)} {σ:St} {H:Hp} {s:Shared} {A:Around} {E:Value->Shared->Prop} {Q:Value->Shared->Prop} {c:Value} {b:Bool}
inductive oO (K:PySem.W.Frag) (H:Hp):V->Value->Prop where
 | non:oO K H .non (.type "NoneType")
 | bl (x:Bool):oO K H (.bl x) (.type "bool")
 | int (i:Int):oO K H (.int i) (.type "int")
 | str (x:Str):oO K H (.str x) (.type "str")
 | flt (x:UInt64):oO K H (.flt x) (.type "float")
 | lst {a:Addr} {xs:List V} (e:H a=some (.lst xs)):oO K H (.ref a) (.type "list")
 | uP {a:Addr} {o:Obj} {xs:List V} (e:H a=some (.uP o (.lst xs))):oO K H (.ref a) (.type "list")
 | tup {a:Addr} {xs:List V} (e:H a=some (.tup xs)):oO K H (.ref a) (.type "tuple")
 | dK {a:Addr} {kvs:List (Key×V)} (e:H a=some (.dK kvs)):oO K H (.ref a) (.type "dict")
 | dT {a:Addr} {kvs:List (List Key×V)} (e:H a=some (.dT kvs)):oO K H (.ref a) (.type "dict")
 | ins {a C dx:Addr} {fs:List (Str×V)} (e:H a=some (.ins C dx fs)) (cl:Cls K C) (ha:PySem.W.findIn K (.ref C) "__class__" = some (some (.builtin "object.__class__")))
   (hn:PySem.W.specialIn K (.builtin "object.__class__") "__get__" = some (some (.builtin "getset_descriptor.__get__"))) (htk:PySem.W.takesIn K (.builtin "object.__class__")=some true)
   (hm:PySem.W.mroIn K C (.type "object")=some true):oO K H (.ref a) (.ref C)
theorem K1 {x:V} {u t:Value} (I:Inv X pins σ H s) (rx:RelV x u) (ty:oO X.K H x t) (e:PySem.W.kitOne X.K t c=some b) (h:∀ tk,Q (.bool b) { s with toks:=tk }) :
  wpAny (model X.prog X.w) A (call (.builtin "isinstance") [u,c]) Q E s:=by
 cases ty with
 | non=>cases (show u=Value.none from rx); exact PySem.W.kia_one PySem.W.kitx_none I.wM True.intro e (fun z=>nomatch z) h
 | bl y=>cases (show u=Value.bool y from rx); exact PySem.W.kia_one PySem.W.kitx_bool I.wM True.intro e (fun z=>nomatch z) h
 | int i=>obtain ⟨t,q⟩:=(show ∃ t,u=Value.int i t from rx); cases q; exact PySem.W.kia_one PySem.W.kitx_int I.wM True.intro e (fun z=>nomatch z) h
 | str y=>obtain ⟨t,q⟩:=(show ∃ t,u=Value.str y t from rx); cases q; exact PySem.W.kia_one PySem.W.kitx_str I.wM True.intro e (fun z=>nomatch z) h
 | flt y=>obtain ⟨t,q⟩:=(show ∃ t,u=Value.float y t from rx); cases q; exact PySem.W.kia_one PySem.W.kitx_float I.wM True.intro e (fun z=>nomatch z) h
 | @lst a xs ea =>
  cases (show u=Value.ref a from rx)
  obtain ⟨_,_,n,_,h1⟩:=(show dA X.prog X.w H s.heap a (.lst xs) from I.hok a _ ea)
  exact PySem.W.kia_one PySem.W.kitx_list I.wM ⟨_,h1,rfl⟩ e (fun z=>nomatch z) h
 | @uP a ob xs ea =>
  cases (show u=Value.ref a from rx)
  obtain ⟨_,_,_,n,_,h1⟩:=(show dA X.prog X.w H s.heap a (.uP ob (.lst xs)) from I.hok a _ ea)
  exact PySem.W.kia_one PySem.W.kitx_list I.wM ⟨_,h1,rfl⟩ e (fun z=>nomatch z) h
 | @tup a xs ea =>
  cases (show u=Value.ref a from rx)
  obtain ⟨_,_,_,p,_⟩:=(show dA X.prog X.w H s.heap a (.tup xs) from I.hok a _ ea)
  obtain ⟨o,h1,h2,_⟩:=p
  exact PySem.W.kia_one PySem.W.kitx_tuple I.wM ⟨o,h1,h2⟩ e (fun z=>nomatch z) h
 | @dK a kvs ea =>
  cases (show u=Value.ref a from rx)
  obtain ⟨_,_,vs,_,p⟩:=(show dA X.prog X.w H s.heap a (.dK kvs) from I.hok a _ ea)
  obtain ⟨o,es,ep,h1,h2,_⟩:=p
  exact PySem.W.kia_one PySem.W.kitx_dict I.wM ⟨o,h1,h2.1⟩ e (fun z=>nomatch z) h
 | @dT a kvs ea =>
  cases (show u=Value.ref a from rx)
  obtain ⟨_,_,xs,_,o,es,ep,h1,h2,_⟩:=(show dA X.prog X.w H s.heap a (.dT kvs) from I.hok a _ ea)
  exact PySem.W.kia_one PySem.W.kitx_dict I.wM ⟨o,h1,h2.1⟩ e (fun z=>nomatch z) h
 | @ins a C dx fs ea cl ha hn htk hm =>
  cases (show u=Value.ref a from rx)
  obtain ⟨mA,O,_⟩:=UA I.hok ea
  obtain ⟨od,J,_⟩:=O.look
  exact PySem.W.kia_one (PySem.W.kitx_own (cl.get _) cl.hd ha hn htk hm) I.wM J e (fun z=>nomatch z) h
end
end L2
namespace L2
open PySem PySem.Spec PyProof.Rows
structure iU (k:Nat) (A:Around):Prop where
 hd:A.handled=none
 dp:A.depth+3*k+5<recursionLimit
 un:A.units+16*k+200<cLine
theorem iU.mono {j k:Nat} {A:Around} (r:iU k A) (h:j<=k):iU j A:=⟨r.hd,by have:=r.dp; omega,by have:=r.un; omega⟩
theorem iU.deeper {k:Nat} {A:Around} (r:iU (k+1) A) (env:Env):iU k (A.deeper env) :=
 ⟨r.hd,by have:=r.dp; show A.depth+1+3*k+5<_; omega,by have:=r.un; show A.units+3+16*k+200<_; omega⟩
theorem iU.depth {k:Nat} {A:Around} (r:iU k A):A.depth<recursionLimit:=by have:=r.dp; omega
noncomputable def Y1:TA:=fun _ H Q=>Q [] H
noncomputable def IV (ta:TE) (tr:TA):TA:=fun σ H Q=>ta σ H fun x H1=>tr σ H1 fun xs H2=>Q (x::xs) H2
section
variable {X:Cx} {e:Expr} {es:List Expr} {te:TE} {t:TA} {pos:Pos}
theorem kP:PA X [] Y1:=fun _ _ _ _ H Q I h=>Calls.spliced_nil ⟨[],H,I,.nil,h⟩
theorem gO (ha:PE X e te) (hr:PA X es t) (hs:starEach (e::es) X.env=(false,eval e X.env)::starEach es X.env:=by rfl):PA X (e::es) (IV te t):=by
 intro pos pins s σ H Q I h
 rw [hs]
 show wpAny _ _ (spliced ((false,eval e X.env)::backTo pos (starEach es X.env))) _ _ s
 refine Calls.spliced_cons (eP (ha pins s σ H _ I h) fun u s1 ⟨x,H1,I1,r1,q1⟩=>?_)
 exact eP (hr pos pins s1 σ H1 _ I1 q1) fun us s2 hq3=>by obtain ⟨xs,H2,I2,r2,q2⟩:=hq3; exact ⟨x::xs,H2,I2,.cons r1 r2,q2⟩
noncomputable def aFF (t:TA):TE:=fun σ H Q=>t σ H fun xs H1=>xs.length<=sizeLine /\ ∀ p,H1 p=none->Q (.ref p) (upd H1 p (.tup xs))
noncomputable def aFG (t:TA):TE:=fun σ H Q=>t σ H fun xs H1=>xs.length<=sizeLine /\ ∀ p,H1 p=none->Q (.ref p) (upd H1 p (.lst xs))
theorem Y2 {x1} (h:PA X es t):PE X (.Tuple es x1 pos) (aFF t):=by
 intro pins s σ H Q I hq
 refine wpAny_Tuple_spliced (eP (h pos pins s σ H _ I hq) fun us s1 ⟨xs,H1,I1,r,z,q⟩=>⟨by rw [<- r.length]; exact z,?_⟩)
 have hf:H1 s1.heap.objs.size=none:=I1.hok.fresh (Nat.le_refl _)
 refine ⟨.ref s1.heap.objs.size,upd H1 s1.heap.objs.size (.tup xs),I1.laid (t':=s1.toks) (fun b u e=>Heap.get?_push_of_some _ e) (Nat.le_refl _) ?_,rfl,q _ hf⟩
 exact ⟨z,us,r,⟨_,Heap.get?_push_size _ rfl,rfl,_,rfl⟩,CI.new _ _⟩
theorem Y3 (h:PA X es t):PE X (.List es pos) (aFG t):=by
 intro pins s σ H Q I hq
 refine wpAny_List_spliced (eP (h pos pins s σ H _ I hq) fun us s1 ⟨xs,H1,I1,r,z,q⟩=>⟨by rw [<- r.length]; exact z,?_⟩)
 have hf:H1 s1.heap.objs.size=none:=I1.hok.fresh (Nat.le_refl _)
 refine ⟨.ref s1.heap.objs.size,upd H1 s1.heap.objs.size (.lst xs),I1.laid (t':=s1.toks) (fun b u e=>Heap.get?_push_of_some _ e) (Nat.le_refl _) ?_,rfl,q _ hf⟩
 exact ⟨z,us,0,r,Heap.get?_push_size _ rfl⟩
end
noncomputable abbrev Sp:=List V->Hp->VK->XK->Prop
noncomputable abbrev K2:=List Env->Hp->Shared->XK->Value->Shared->Prop
structure UB (P:Program) (w:World) (K:PySem.W.Frag) (mg:Str->Option Value) (base:Heap) (A:Around) (outer:List Env) (s:Shared) (H:Hp):Prop where
 frames:A.frames=some outer
 mod:Mod K mg base
 bs:∀ b o,base.get? b=some o->s.heap.get? b=some o/\H b=none
 TR:base.objs.size<=s.heap.objs.size
 sO:s.heap.FunFrames base outer
 frf:∀ b∈frs outer,H b=none
 hok:nH P w H s.heap
 bare:AllBare s.gens
 tab:TQ K base H
noncomputable def CE (outer:List Env) (P:Program) (w:World) (H:Hp) (s:Shared) (Q:VK) (u:Value) (s':Shared):Prop :=
 ∃ v H',s'.os=s.os/\AllBare s'.gens/\Un (frs outer) [] H H' s.heap s'.heap/\nH P w H' s'.heap/\RelV v u/\Q v H'
noncomputable def CR (CX:K2) (outer:List Env) (P:Program) (w:World) (H:Hp) (s:Shared) (Q:VK) (E:XK) (r:Result) (s':Shared):Prop :=
 match r with
 | .ok (.ret u)=>CE outer P w H s Q u s'
 | .ok _=>False
 | .error e=>CX outer H s E e s'
structure aU (P:Program) (w:World) (K:PySem.W.Frag) (mg:Str->Option Value) (base:Heap) (CX:K2) (k:Nat) (f:Addr) (fd:FuncData) (ps:List Str) (sp:Sp):Prop where
 len:∀ vs H Q E,sp vs H Q E->vs.length=ps.length
 run:∀ (A:Around) (outer:List Env) (s:Shared) (H:Hp) (args:Args) (us:List Value) (vs:List V) (Q:VK) (E:XK),iU k A->UB P w K mg base A outer s H->BindsTo s fd args (ps.zip us)->Vals vs us->sp vs H Q E ->
  codeAny (model P w) A (.call (.ref f) args) (CR CX outer P w H s Q E) s
theorem aU.mono {P:Program} {w:World} {K:PySem.W.Frag} {mg:Str->Option Value} {base:Heap} {CX:K2} {j k:Nat} {f:Addr} {fd:FuncData} {ps:List Str} {sp:Sp} (F:aU P w K mg base CX j f fd ps sp) (h:j<=k) :
  aU P w K mg base CX k f fd ps sp:=⟨F.len,fun A outer s H args us vs Q E hr=>F.run A outer s H args us vs Q E (hr.mono h)⟩
section
variable {X:Cx} {pins:List (Addr×Obj)} {σ:St} {H:Hp} {s s':Shared}
theorem Inv.env0 (I:Inv X pins σ H s):UB X.prog X.w X.K X.mg X.base X.A X.stack s H :=
 ⟨I.ok.frames,I.ok.mod,I.bs,Nat.le_trans I.ok.TR I.sz,I.stack,I.AE,I.hok,I.bare,I.tab⟩
theorem Inv.after {Q:VK} {u:Value} (I:Inv X pins σ H s) (h:CE X.stack X.prog X.w H s Q u s'):EP X pins σ Q u s':=by
 obtain ⟨v,H',os,bare,un,hok,r,q⟩:=h
 obtain ⟨hh,g,d,t,os'⟩:=s'
 obtain rfl:os' = s.os:=os
 exact ⟨v,H',I.call (h':=hh) (g':=g) (d':=d) (t':=t) (ch:=[]) un hok bare (fun b z=>absurd z (by simp)),r,q⟩
end
noncomputable def aBa (sp:Sp) (WL:List V) (E:XK) (t:TA):TE:=fun σ H Q=>t σ H fun vs H1=>sp (vs++WL) H1 Q E
noncomputable def Binds (K:PySem.W.Frag) (fd:FuncData) (ps:List Str) (ds:List Value):Prop :=
 ∀ (s:Shared) (us:List Value),K.In s.heap->(us++ds).length=ps.length->BindsTo s fd ⟨us,[]⟩ (ps.zip (us++ds))
theorem Binds.all {K:PySem.W.Frag} {fd:FuncData} {ps:List Str} (h:∀ us:List Value,us.length=ps.length->bindArgs fd ⟨us,[]⟩=pure (ps.zip us)):Binds K fd ps []:=fun s us _ hl=>by
 rw [List.append_nil] at hl ⊢
 exact .of_eq (h us hl)
noncomputable def Passes (CX:K2) (X:Cx) (E:XK):Prop:=∀ (pins:List (Addr×Obj)) (σ:St) (H:Hp) (s:Shared) (e:Value) (s':Shared),Inv X pins σ H s->CX X.stack H s E e s'->X.xe e s'
section
variable {X:Cx} {CX:K2} {k:Nat} {f C:Addr} {fd:FuncData} {ps:List Str} {sp:Sp} {WL:List V} {ds:List Value} {E:XK} {x m:Str} {p pos apos:Pos} {e o:Expr} {es:List Expr} {ta:TE} {t:TA}
theorem Y4 {pins:List (Addr×Obj)} {σ:St} {H:Hp} {s:Shared} {Q:VK} {us:List Value} {vs:List V} (F:aU X.prog X.w X.K X.mg X.base CX k f fd ps sp) (hr:iU k X.A) (hb:Binds X.K fd ps ds) (hd:Vals WL ds) (hx:Passes CX X E)
  (I:Inv X pins σ H s) (r:Vals vs us) (h:sp (vs++WL) H Q E):wpAny (model X.prog X.w) X.A (call (.ref f) us) (EP X pins σ Q) X.xe s:=by
 have r2:Vals (vs++WL) (us++ds):=r.append hd
 have hl:(us++ds).length=ps.length:=by rw [<- r2.length]; exact F.len _ _ _ _ h
 refine wpAny_call (codeAny_mono (F.run X.A X.stack s H ⟨us,[]⟩ (us++ds) (vs++WL) Q E hr I.env0 (hb s us I.wM hl) r2 h) fun r s' hq=>?_)
 cases r with
 | error e=>exact hx pins σ H s e s' I hq
 | ok fl =>
  cases fl with
  | ret u=>exact I.after hq
  | next=>exact False.elim hq
  | brk=>exact False.elim hq
  | cont=>exact False.elim hq
theorem AL (F:aU X.prog X.w X.K X.mg X.base CX k f fd ps sp) (hr:iU k X.A) (hg:Gl X x) (hm:X.mg x=some (.ref f)) (hk:PySem.W.keepIn X.K (.ref f)=true) (hb:Binds X.K fd ps ds) (hd:Vals WL ds) (hx:Passes CX X E)
  (ha:PA X (e::es) t) (hdb:(x == ("__debug__" : Str))=false:=by decide) (he:starEach (e::es) X.env=(false,eval e X.env)::starEach es X.env:=by rfl) (hpl:(backTo pos (starEach es X.env)).any (·.1)=false:=by rfl) :
  PE X (.Call (.Name x p) (e::es) [] pos) (aBa sp WL E t):=by
 intro pins s σ H Q I h
 refine wpAny_Call_Name_kw (AH I hg hm ?_ hdb)
 refine PySem.W.callWith_K (h₀:=X.base) I.ok.mod.kin hk (eP (ha pos pins s σ H _ I h) fun us s1 ⟨vs,H1,I1,r,q⟩=>⟨I1.wM,?_⟩) he hpl
 exact Y4 F hr hb hd hx I1 r q
end
section
variable {X:Cx} {CX:K2} {k:Nat} {f C:Addr} {fd:FuncData} {ps ks:List Str} {sp:Sp} {E:XK} {x m:Str} {p pos apos kpos:Pos} {e o:Expr} {es:List Expr} {kws:List Keyword} {te ta:TE} {t tk:TA} {nm:Option Str}
structure aFH (K:PySem.W.Frag) (fd:FuncData) (ps ks:List Str) (g:List Value->List Value->List Value) (gV:List V->List V->List V):Prop where
 to:∀ (s:Shared) (us ws:List Value),K.In s.heap->(g us ws).length=ps.length->BindsTo s fd ⟨us,ks.zip ws⟩ (ps.zip (g us ws))
 rel:∀ {vs:List V} {us:List Value} {zs:List V} {ws:List Value},Vals vs us->Vals zs ws->Vals (gV vs zs) (g us ws)
variable {g:List Value->List Value->List Value} {gV:List V->List V->List V}
end
structure bJ (N P:List Str) (sc:Scope):Prop where
 kind:sc.kind=.function
 co:sc.isCoroutine=false
 gen:sc.isGenerator=false
 nd:N.Nodup
 pre:N.take P.length=P
 par:∀ x∈P,sc.names.lookup x=some .local\/sc.names.lookup x=some .cell
 Y5:∀ y∈sc.names,y.2≠.free
theorem x5 {kindOf:Str->Option NameKind} {x:Str}:∀ {binds:List (Str×Value)} {m:Str->Option Value},(∀ v,(x,v)∉binds)->bindL kindOf binds m x=m x
 | [],_,_=>rfl
 | (n,v)::r,m,h=>by
  unfold bindL
  rw [x5 fun w hw=>h w (List.mem_cons_of_mem _ hw)]
  split
  ·have:x≠n:=by rintro rfl; exact h v List.mem_cons_self
   simp [this]
  ·rfl
theorem x6 {kindOf:Str->Option NameKind} {x:Str}:∀ {binds:List (Str×Value)} {m:Str->Option Value},(∀ v,(x,v)∉binds)->bindC kindOf binds m x=m x
 | [],_,_=>rfl
 | (n,v)::r,m,h=>by
  unfold bindC
  rw [x6 fun w hw=>h w (List.mem_cons_of_mem _ hw)]
  split
  ·rfl
  ·have:x≠n:=by rintro rfl; exact h v List.mem_cons_self
   simp [this]
theorem x8 {kindOf:Str->Option NameKind} {x:Str} {v:Value}:∀ {P:List Str} {vs:List Value} {i:Nat} {m:Str->Option Value},P.Nodup->P[i]? = some x->vs[i]? = some v->kindOf x=some .local ->
  bindL kindOf (P.zip vs) m x=some v
 | [],_,_,_,_,h,_,_=>by simp at h
 | _::_,[],_,_,_,_,h,_=>by simp at h
 | p::P,w::vs,0,m,nd,h1,h2,hk=>by
  simp at h1 h2; subst h1; subst h2
  show bindL kindOf ((p,w)::P.zip vs) m p=_
  unfold bindL
  rw [x5 fun v hv=>(List.nodup_cons.mp nd).1 (List.of_mem_zip hv).1,if_pos hk]
  simp
 | p::P,w::vs,i+1,m,nd,h1,h2,hk=>by
  show bindL kindOf ((p,w)::P.zip vs) m x=_
  unfold bindL
  exact x8 (i:=i) (List.nodup_cons.mp nd).2 (by simpa using h1) (by simpa using h2) hk
theorem x9 {kindOf:Str->Option NameKind} {x:Str} {v:Value}:∀ {P:List Str} {vs:List Value} {i:Nat} {m:Str->Option Value},P.Nodup->P[i]? = some x->vs[i]? = some v->kindOf x≠some .local ->
  bindC kindOf (P.zip vs) m x=some v
 | [],_,_,_,_,h,_,_=>by simp at h
 | _::_,[],_,_,_,_,h,_=>by simp at h
 | p::P,w::vs,0,m,nd,h1,h2,hk=>by
  simp at h1 h2; subst h1; subst h2
  show bindC kindOf ((p,w)::P.zip vs) m p=_
  unfold bindC
  rw [x6 fun v hv=>(List.nodup_cons.mp nd).1 (List.of_mem_zip hv).1,if_neg hk]
  simp
 | p::P,w::vs,i+1,m,nd,h1,h2,hk=>by
  show bindC kindOf ((p,w)::P.zip vs) m x=_
  unfold bindC
  exact x9 (i:=i) (List.nodup_cons.mp nd).2 (by simpa using h1) (by simpa using h2) hk
noncomputable def start (N:List Str) (vs:List V):St:=vs.map some++List.replicate (N.length - vs.length) none
noncomputable def qI (CX:K2) (P:Program) (w:World) (K:PySem.W.Frag) (mg:Str->Option Value) (base:Heap) (N:List Str) (qual:Str) (scope:Scope) (f:Addr) (cd:Value) (A:Around) (outer:List Env) (s:Shared) (H:Hp) (E:XK):Cx where
 prog:=P
 w:=w
 K:=K
 mg:=mg
 base:=base
 A:=A.deeper (envOfC qual scope s.heap.objs.size f cd)
 N:=N
 s₀:=s
 H₀:=H
 env:=envOfC qual scope s.heap.objs.size f cd
 outer:=outer
 stack:=envOfC qual scope s.heap.objs.size f cd::outer
 ex:=[]
 calm:=true
 fn:=fun _=>true
 pn:=[]
 xe:=fun e s'=>wpAny (model P w) (A.deeper (envOfC qual scope s.heap.objs.size f cd)) (leaving (envOfC qual scope s.heap.objs.size f cd) e) (fun _ s''=>CX outer H s E e s'') (fun e' s''=>CX outer H s E e' s'') s'
theorem CL {sc:Scope} {n:Nat} {x:Str} (h:sc.names.lookup x=some .cell):∃ c,(cellsFrom n sc.names []).lookup x=some c:=by
 have q:=PySem.W.cellsFrom_some sc.names n [] (.inl h)
 exact Option.isSome_iff_exists.mp q
theorem K3 {CX:K2} {P:Program} {w:World} {K:PySem.W.Frag} {mg:Str->Option Value} {base:Heap} {N ps:List Str} {qual:Str} {scope:Scope} {f:Addr} {cd:Value} {A:Around} {outer:List Env} {s s1:Shared} {H:Hp} {E:XK} {us:List Value} {vs:List V}
  (S:bJ N ps scope) (hd:A.handled=none) (e0:UB P w K mg base A outer s H) (hl:vs.length=ps.length) (r:Vals vs us)
  (x:InCallC s s.heap.objs.size (bindL (envOfC qual scope s.heap.objs.size f cd).kindOf (ps.zip us) fun _=>none) (cellsFrom (s.heap.objs.size+1) scope.names []) (bindC (envOfC qual scope s.heap.objs.size f cd).kindOf (ps.zip us) fun _=>none) s1) :
  Inv (qI CX P w K mg base N qual scope f cd A outer s H E) [] (start N vs) H s1:=by
 have hpl:ps.length<=N.length:=by have:=congrArg List.length S.pre; rw [List.length_take] at this; omega
 obtain ⟨h1,tk,rfl,hk⟩:=x.done
 have noA:∀ b:Addr,b∉(qI CX P w K mg base N qual scope f cd A outer s H E).ex:=fun b z=>absurd (show b∈([]:List Addr) from z) (by simp)
 refine ⟨⟨e0.mod,S.kind,rfl,rfl,Nat.le_refl _,fun y z c h1 h2=>?_,fun y hy=>?_,fun y c _ h=>?_,fun _=>hd,Around.frames_deeper e0.frames,.inr ⟨rfl,rfl⟩,fun b z=>absurd z (noA b),e0.bs,e0.TR,fun b _ _=>noA b,fun b z=>absurd z (noA b),e0.sO,e0.frf,e0.tab⟩,
  rfl,e0.bare,Un.kept hk,⟨_,x.toInCall.ns,fun i y v h1 h2 h3=>?_⟩,fun y c h=>⟨_,x.cell y c h⟩,e0.hok.fresh (Nat.le_refl _),fun y c h=>?_,fun p hp=>absurd (show p∈([]:List (Addr×Obj)) from hp) (by simp),e0.hok.kept hk,?_⟩
 ·exact name_of_addr x.apart (PySem.mem_of_lookup h1) (PySem.mem_of_lookup h2)
 ·have hy:scope.names.lookup y=some .cell\/scope.names.lookup y=some .free:=hy
  rcases hy with hy | hy
  ·exact CL hy
  ·exact absurd rfl (S.Y5 _ (PySem.mem_of_lookup hy))
 ·exact Nat.le_of_lt (x.above y c (PySem.mem_of_lookup h))
 ·have hi:i<vs.length:=by
   unfold start at h2
   by_cases hi:i<vs.length
   ·exact hi
   ·rw [List.getElem?_append_right (by simpa using hi)] at h2
    rw [List.getElem?_replicate] at h2
    split at h2<;>cases h2
  have ha:vs[i]? = some v:=by
   unfold start at h2
   rw [List.getElem?_append_left (by simpa using hi),List.getElem?_map] at h2
   cases e:vs[i]? with
   | none=>rw [e] at h2; cases h2
   | some a=>rw [e] at h2; cases h2; rfl
  obtain ⟨u,hu,rv⟩:=r.get ha
  have hp:ps[i]? = some y:=by
   rw [<- S.pre,List.getElem?_take_of_lt (by omega)]; exact h1
  have ndP:ps.Nodup:=by rw [<- S.pre]; exact S.nd.sublist (List.take_sublist _ _)
  refine ⟨u,rv,?_⟩
  rcases S.par y (List.mem_of_getElem? hp) with k | k
  ·exact .inl ⟨k,x8 ndP hp hu k⟩
  ·obtain ⟨c,e⟩:=CL (n:=s.heap.objs.size+1) k
   refine .inr ⟨.inl k,c,e,?_⟩
   have q:=x.cell y c e
   rw [x9 ndP hp hu (by show scope.names.lookup y≠_; rw [k]; decide)] at q
   exact q
 ·exact e0.hok.fresh (Nat.le_of_lt (x.above y c (PySem.mem_of_lookup h)))
 ·unfold start
  show _=N.length
  rw [List.length_append,List.length_map,List.length_replicate]
  omega
theorem WM {CX:K2} {P:Program} {w:World} {K:PySem.W.Frag} {mg:Str->Option Value} {base:Heap} {k:Nat} {f:Addr} {name qual:Str} {params:Arguments} {body:List Stmt} {scope:Scope} {dV kV doc pm cdv ct oc:Value} {an od:Option Addr}
  {osl:Array (Option Value)} {N ps:List Str} {sp:Sp} (lk:K.lookup f=some ⟨oc,od,.func (PySem.W.fnOf name qual params body scope dV kV doc pm an cdv ct),osl⟩) (hcd:PySem.W.codeIn K cdv qual=true) (S:bJ N ps scope)
  (len:∀ vs H Q E,sp vs H Q E->vs.length=ps.length)
  (hbody:∀ (A:Around) (outer:List Env) (s:Shared) (H:Hp) (vs:List V) (Q:VK) (E:XK),iU k (A.deeper (envOfC qual scope s.heap.objs.size f cdv))->sp vs H Q E ->
   ∃ t,FF (qI CX P w K mg base N qual scope f cdv A outer s H E) body t/\t { nx:=fun _ H'=>Q .non H',rt:=Q } (start N vs) H) :
  aU P w K mg base CX (k+1) f (PySem.W.fnOf name qual params body scope dV kV doc pm an cdv ct) ps sp:=by
 refine ⟨len,fun A outer s H args us vs Q E hr e0 hb r hsp=>?_⟩
 have hl:=len _ _ _ _ hsp
 have KX:K.In s.heap:=e0.mod.kin.keeps fun b o e=>(e0.bs b o e).1
 have lim:s.heap.NoLimit:=e0.mod.nolimit.keeps fun b o e=>(e0.bs b o e).1
 have hkind:∀ y∈ps.zip us,scope.names.lookup y.1=some .local\/(scope.names.lookup y.1=some .cell/\((cellsFrom (s.heap.objs.size+1) scope.names []).lookup y.1).isSome=true):=fun ⟨n,v⟩ hy=>by
  rcases S.par n (List.of_mem_zip hy).1 with q | q
  ·exact .inl q
  ·exact .inr ⟨q,PySem.W.cellsFrom_some _ _ _ (.inl q)⟩
 refine codeAny_call_function hr.depth (KX _ _ lk) rfl S.co S.gen rfl (PySem.W.codeRec_of KX hcd) (hb _ _ _ _ ?_)
 refine wpAny_newFunctionEnv_cells S.kind hkind fun env he s1 x=>?_
 subst he
 refine ⟨lim.keeps x.toInCall.keep,codeAny_func ?_⟩
 obtain ⟨t,ht,hq⟩:=hbody A outer s H vs Q E (hr.deeper _) hsp
 have I:Inv (qI CX P w K mg base N qual scope f cdv A outer s H E) [] (start N vs) H s1:=K3 S hr.hd e0 hl r x
 refine wpAny_mono (ht [] s1 (start N vs) H _ I hq) (fun fl s' hs=>?_) fun e s' hs=>hs
 have fin:∀ {σ':St} {H':Hp} {v:V} {u:Value},Inv (qI CX P w K mg base N qual scope f cdv A outer s H E) [] σ' H' s'->RelV v u->Q v H'->CE outer P w H s Q u s' :=
  fun {σ' H' v u} J rv q=>⟨v,H',J.os,J.bare,J.base,J.hok,rv,q⟩
 cases fl with
 | ret u =>
  obtain ⟨v,σ',H',J,rv,q⟩:=hs
  exact fin J rv q
 | next =>
  obtain ⟨σ',H',J,q⟩:=hs
  exact fin (v:=V.non) (u:=Value.none) J rfl q
 | brk =>
  obtain ⟨_,_,_,q⟩:=hs
  exact False.elim q
 | cont =>
  obtain ⟨_,_,_,q⟩:=hs
  exact False.elim q
end L2
namespace L2
open PySem PySem.Spec PyProof.Rows
section
variable {X:Cx} {x:Str} {p pos:Pos} {e:Expr} {es:List Expr} {t:TA} {id T:String} {r:List V->Hp->VK->Prop}
noncomputable def tCB (r:List V->Hp->VK->Prop) (t:TA):TE:=fun σ H Q=>t σ H fun vs H1=>r vs H1 Q
theorem oP (hc:fK X (.builtin id) r) (hg:Gl X x) (hm:X.mg x=none) (hv:bootBuiltins x=some (.builtin id)) (ha:PA X (e::es) t) (hn:x ≠ "__name__" := by decide) (hdb:(x == ("__debug__" : Str))=false:=by decide)
  (he:starEach (e::es) X.env=(false,eval e X.env)::starEach es X.env:=by rfl) (hpl:(backTo pos (starEach es X.env)).any (·.1)=false:=by rfl):PE X (.Call (.Name x p) (e::es) [] pos) (tCB r t):=by
 intro pins s σ H Q I h
 refine wpAny_Call_Name_kw (qG I hg hm hv ?_ hn hdb)
 exact PyProof.Rows.callWith_builtin1 (eP (ha pos pins s σ H _ I h) fun us s1 ⟨vs,H1,I1,r1,q1⟩=>hc pins s1 σ H1 vs us Q I1 r1 q1) he hpl
theorem qJ (hc:fK X (.type T) r) (hg:Gl X x) (hm:X.mg x=none) (hv:bootBuiltins x=some (.type T)) (ha:PA X (e::es) t) (hn:x ≠ "__name__" := by decide) (hdb:(x == ("__debug__" : Str))=false:=by decide)
  (he:starEach (e::es) X.env=(false,eval e X.env)::starEach es X.env:=by rfl) (hpl:(backTo pos (starEach es X.env)).any (·.1)=false:=by rfl):PE X (.Call (.Name x p) (e::es) [] pos) (tCB r t):=by
 intro pins s σ H Q I h
 refine wpAny_Call_Name_kw (qG I hg hm hv ?_ hn hdb)
 exact PyProof.Rows.callWith_type1 (eP (ha pos pins s σ H _ I h) fun us s1 ⟨vs,H1,I1,r1,q1⟩=>hc pins s1 σ H1 vs us Q I1 r1 q1) he hpl
end
end L2
namespace HT
open PySem PyProof.Rows
section
open PySem.SeqAt
open PySem.AutoSeq1 (wpAny_loadPart')
open PySem.MeetsSeq PySem.MeetsSeq2 PySem.MeetsSeq3
end
section
variable {prog:Program} {w:World} {A:Around} {E:Value->Shared->Prop} {s:Shared}
theorem UC {t b:Addr} {vs ws:List Value} {Q:Value->Shared->Prop} (ht:IsTup s.heap t vs.toArray) (hb:IsTup s.heap b ws.toArray) (hv:vs≠[])
  (h1:ws=[]->Q (.ref t) s) (h2:ws≠[]->Q (.ref s.heap.objs.size) { s with heap:=s.heap.push { cls:=.type "tuple",data:=.seq (vs++ws).toArray } })
  (hsz:vs.length+ws.length<=sizeLine):wpAny (model prog w) A (binaryOp .Add (.ref t) (.ref b)) Q E s:=by
 obtain ⟨⟨cls,dd,data,sl⟩,ho,hc,n,hd⟩:=id ht
 obtain ⟨⟨cls2,dd2,data2,sl2⟩,ho2,hc2,n2,hd2⟩:=id hb
 simp only at hc hd hc2 hd2
 subst hc hd hc2 hd2
 have e:vs.toArray++ws.toArray=(vs++ws).toArray:=by simp
 by_cases hw:ws=[]
 ·exact concat_meets ⟨_,ho,rfl⟩ ⟨_,ho2,rfl⟩ noFill_tuple_add seq_tuple_add PySem.F.slot_tuple_add PySem.F.entry_tuple_add (PySem.F.args_tuple_add_2 _ _)
   (tuple_addW1 t b vs.toArray ws.toArray n n2 dd dd2 sl sl2 (by simpa using hv) (by simp [hw])) ⟨ho,ho2,h1 hw⟩
 ·refine concat_meets ⟨_,ho,rfl⟩ ⟨_,ho2,rfl⟩ noFill_tuple_add seq_tuple_add PySem.F.slot_tuple_add PySem.F.entry_tuple_add (PySem.F.args_tuple_add_2 _ _)
   (tuple_addW2 t b vs.toArray ws.toArray n n2 dd dd2 sl sl2 (by simpa using hv) (by simpa using hw) (by rw [List.size_toArray,List.size_toArray]; exact hsz)) ⟨ho,ho2,?_⟩
  rw [e]
  exact h2 hw
noncomputable def fV (n d:Nat):Option Int->Nat
 | none=>d
 | some v=>if v<0 then (v+(n:Int)).toNat else min v.toNat n
theorem Y6 (n d:Nat) (hd:d<=n) (o:Option Int):fV n d o<=n:=by
 cases o with
 | none=>exact hd
 | some v =>
  show (if v<0 then (v+(n:Int)).toNat else min v.toNat n)<=n
  by_cases hv:v<0
  ·rw [if_pos hv]; omega
  ·rw [if_neg hv]; exact Nat.min_le_right _ _
theorem IW (v:Int) (n d:Nat):(if v<0 then max (v+(n:Int)) 0 else min v (n:Int))=((fV n d (some v):Nat):Int):=by
 show (if v<0 then max (v+(n:Int)) 0 else min v (n:Int))=(((if v<0 then (v+(n:Int)).toNat else min v.toNat n):Nat):Int)
 by_cases hv:v<0
 ·simp only [if_pos hv]; omega
 ·simp only [if_neg hv]; omega
theorem FL (lo hi:Option Int) (n:Nat):Builtin.Slice.sliceAdjust lo hi 1 (n:Int)=(((fV n 0 lo:Nat):Int),((fV n n hi:Nat):Int)):=by
 have h1:¬ ((1:Int)<0):=by omega
 unfold Builtin.Slice.sliceAdjust
 simp only [h1,if_false]
 refine Prod.ext ?_ ?_
 ·cases lo with
  | none=>rfl
  | some v=>exact IW v n 0
 ·cases hi with
  | none=>rfl
  | some v=>exact IW v n n
theorem FN (i j:Nat):Builtin.Slice.slicePlaces (i:Int) (j:Int) 1=j - i:=by
 unfold Builtin.Slice.slicePlaces
 have h1:(1:Int)>0:=by omega
 simp only [h1,if_true,Int.ediv_one]
 split<;>omega
theorem uT {v:Value} {o:Option Int} {Q:Option Int->Shared->Prop} (p:IsPart v o) (h:Q o s):wpAny (model prog w) A (Builtin.Slice.slicePartIndex v) Q E s:=by
 cases p with
 | none=>exact slicePart_none h
 | int i t=>exact slicePart_int h
theorem jL {sl:Addr} {vl vu:Value} {lo hi:Option Int} {n:Nat} {Q:Int×Int×Nat->Shared->Prop} (hs:s.heap.IsSliceOf sl vl vu .none) (pl:IsPart vl lo) (pu:IsPart vu hi)
  (h:Q (((fV n 0 lo:Nat):Int),1,fV n n hi - fV n 0 lo) s):wpAny (model prog w) A (Builtin.Slice.sliceApplied (.ref sl) (pure (n:Int))) Q E s:=by
 obtain ⟨os,hos,hcs,hds⟩:=id hs
 unfold Builtin.Slice.sliceApplied Builtin.Slice.sliceFields
 refine wpAny_bind (wpAny_bind (wpAny_field hos hds (x:=vl) rfl (wpAny_bind (wpAny_field hos hds (x:=vu) rfl (wpAny_bind (wpAny_field hos hds (x:=.none) rfl (wpAny_pure ?_)))))))
 refine wpAny_bind (slicePart_none ?_)
 show wpAny _ _ (if ((1:Int) == 0)=true then _ else _) _ _ s
 rw [if_neg (by decide)]
 refine wpAny_bind (uT pl (wpAny_bind (uT pu (wpAny_bind (wpAny_pure ?_)))))
 show wpAny _ _ (match Builtin.Slice.sliceAdjust lo hi 1 (n:Int) with | (lo,hi)=>pure (lo,(1:Int),Builtin.Slice.slicePlaces lo hi 1)) _ _ s
 rw [FL lo hi n]
 show wpAny _ _ (pure (((fV n 0 lo:Nat):Int),(1:Int),Builtin.Slice.slicePlaces ((fV n 0 lo:Nat):Int) ((fV n n hi:Nat):Int) 1)) _ _ s
 rw [FN]
 exact wpAny_pure h
theorem OY (xs:Array Value) (i k:Nat):((List.range k).filterMap fun (m:Nat)=>xs[((i:Int)+(m:Int)*1).toNat]?).toArray=((xs.toList.drop i).take k).toArray:=by
 have e:(fun (m:Nat)=>xs[((i:Int)+(m:Int)*1).toNat]?)=fun m=>xs[i+m]?:=by
  funext m
  have:((i:Int)+(m:Int)*1).toNat=i+m:=by omega
  rw [this]
 rw [e]
 have:=pick_run xs i k
 rw [List.filterMap_map] at this
 have e2:((fun x=>xs[x]?)∘fun x=>i+x)=fun m=>xs[i+m]?:=rfl
 rw [e2] at this
 rw [this]
theorem oQ {t sl:Addr} {items:Array Value} {vl vu:Value} {lo hi:Option Int} {Q:Value->Shared->Prop} (ht:IsTup s.heap t items) (hs:s.heap.IsSliceOf sl vl vu .none) (pl:IsPart vl lo) (pu:IsPart vu hi)
  (hw:¬ (fV items.size 0 lo=0/\fV items.size items.size hi=items.size))
  (h:Q (.ref s.heap.objs.size) { s with heap:=s.heap.push { cls:=.type "tuple",data:=.seq ((items.toList.drop (fV items.size 0 lo)).take (fV items.size items.size hi - fV items.size 0 lo)).toArray } })
  (hsz:items.size<=sizeLine):wpAny (model prog w) A (getItem (.ref t) (.ref sl)) Q E s:=by
 have IX:sizeOk (.seq ((items.toList.drop (fV items.size 0 lo)).take (fV items.size items.size hi - fV items.size 0 lo)).toArray):=by
  show ((items.toList.drop (fV items.size 0 lo)).take (fV items.size items.size hi - fV items.size 0 lo)).toArray.size<=sizeLine
  rw [List.size_toArray,List.length_take,List.length_drop,Array.length_toList]
  omega
 have hj:fV items.size items.size hi<=items.size:=Y6 _ _ (Nat.le_refl _) hi
 obtain ⟨os,hos,hcs,hds⟩:=id hs
 have hTs:s.TypeIs (.ref sl) "slice" := ⟨os,hos,hcs⟩
 unfold getItem
 try with_reducible refine wpAny_holding ?_
 first | refine wpAny_bind (wpAny_pure ?_) | skip
 refine wpAny_bind (wpAny_sequenceKey ht.typeIs (by decide) ?_)
 refine wpAny_bind (wpAny_callSpecial?_slot (name:=Str.ofString "__getitem__") ht.typeIs PyProof.Rows.slot_tuple_getitem
  (wpAny_call_entry PyProof.Rows.slot_tuple_getitem ht.typeIs entry_tuple_getitem ?_ (args_tuple_getitem _ _)))
 show wpAny _ _ (Builtin.Tuple.tupleItemsOf (.ref t) >>= _) _ _ s
 refine wpAny_bind (tupleItemsOf_ ht ?_)
 refine wpAny_bind (wpAny_typeOf hTs ?_)
 rw [if_pos (by decide)]
 refine wpAny_bind (jL hs pl pu ?_)
 have hno:¬ ((((fV items.size 0 lo:Nat):Int) == 0&&(1:Int) == 1&&(fV items.size items.size hi - fV items.size 0 lo) == items.size)=true):=by
  intro q
  rw [Bool.and_eq_true,Bool.and_eq_true] at q
  have q1:((fV items.size 0 lo:Nat):Int)=0:=eq_of_beq q.1.1
  have q2:fV items.size items.size hi - fV items.size 0 lo=items.size:=eq_of_beq q.2
  exact hw ⟨by omega,by omega⟩
 show wpAny _ _ (if (((fV items.size 0 lo:Nat):Int) == 0&&(1:Int) == 1&&(fV items.size items.size hi - fV items.size 0 lo) == items.size)=true then _ else _) _ _ s
 rw [if_neg hno,OY]
 first
  | exact wpAny_bind (m:=Builtin.Tuple.tupleExact _) (wpAny_newObj_type (wpAny_pure ⟨_,rfl,wpAny_pure h⟩) IX)
  | exact wpAny_bind (m:=Builtin.Tuple.tupleExact _) (wpAny_newObj_type (wpAny_bind (wpAny_pure (wpAny_pure ⟨_,rfl,wpAny_pure h⟩))) IX)
  | exact wpAny_bind (wpAny_bind (m:=Builtin.Tuple.tupleExact _) (wpAny_newObj_type (wpAny_pure (wpAny_pure ⟨_,rfl,wpAny_pure h⟩)) IX))
  | exact wpAny_bind (wpAny_bind (m:=Builtin.Tuple.tupleExact _) (wpAny_newObj_type (wpAny_pure ⟨_,rfl,wpAny_pure h⟩) IX))
end
end HT
namespace L2
open PySem PySem.Spec PyProof.Rows
noncomputable abbrev TO:=St->Hp->(Option Int->Hp->Prop)->Prop
noncomputable def PO (X:Cx) (e:Option Expr) (t:TO):Prop :=
 ∀ (pins:List (Addr×Obj)) (s:Shared) (σ:St) (H:Hp) (Q:Option Int->Hp->Prop),Inv X pins σ H s->t σ H Q ->
  wpAny (model X.prog X.w) X.A (evalPart e X.env) (fun u s'=>∃ o H',Inv X pins σ H' s'/\IsPart u o/\Q o H') X.xe s
noncomputable def UD:TO:=fun _ H Q=>Q none H
noncomputable def aBb (t:TE):TO:=fun σ H Q=>t σ H fun x H1=>∃ i,x=.int i/\Q (some i) H1
theorem intsAre_of {ns:List Int}:∀ {us:List Value},Vals (ns.map V.int) us->IntsAre us ns:=by
 induction ns with
 | nil=>intro us r; rw [List.map_nil] at r; cases r; exact .nil
 | cons n ns ih =>
  intro us r
  rw [List.map_cons] at r
  cases r with
  | cons r1 r2 =>
   obtain ⟨t,e⟩:=r1
   subst e
   exact .cons n t (ih r2)
section
variable {X:Cx} {e:Expr} {te:TE} {lo hi:Option Expr} {tl th:TO} {pos p2:Pos}
theorem UE:PO X none UD:=by
 intro pins s σ H Q I h
 rw [evalPart_none]
 exact wpAny_pure ⟨none,H,I,.none,h⟩
theorem UG (h:PE X e te):PO X (some e) (aBb te):=by
 intro pins s σ H Q I hw
 rw [evalPart_some]
 refine eP (h pins s σ H _ I hw) fun u s1 hq4=>?_
 obtain ⟨x,H1,I1,r1,q1⟩:=hq4
 obtain ⟨i,rfl,q⟩:=q1
 obtain ⟨t,rfl⟩:=r1
 exact ⟨some i,H1,I1,.int i t,q⟩
noncomputable def WN (X:Cx) (r:V->Option Int->Option Int->Hp->VK->Prop):Prop :=
 ∀ (pins:List (Addr×Obj)) (s:Shared) (σ:St) (H:Hp) (x:V) (v vl vu:Value) (lo hi:Option Int) (sl:Addr) (Q:VK),Inv X pins σ H s->RelV x v->s.heap.IsSliceOf sl vl vu .none->IsPart vl lo->IsPart vu hi->r x lo hi H Q ->
  ∃ T id,typeLookup (.type T) "__getitem__" = pure (some (.builtin id))/\s.TypeIs v T/\wpAny (model X.prog X.w) X.A (getItem v (.ref sl)) (EP X pins σ Q) X.xe s
theorem WN.or {r r':V->Option Int->Option Int->Hp->VK->Prop} (h:WN X r) (h':WN X r'):WN X (fun x lo hi H Q=>r x lo hi H Q\/r' x lo hi H Q):=by
 intro pins s σ H x v vl vu lo hi sl Q I rx hs pl pu q
 rcases q with q | q
 ·exact h pins s σ H x v vl vu lo hi sl Q I rx hs pl pu q
 ·exact h' pins s σ H x v vl vu lo hi sl Q I rx hs pl pu q
noncomputable def tSl (r:V->Option Int->Option Int->Hp->VK->Prop) (te:TE) (tl th:TO):TE:=fun σ H Q=>te σ H fun x H1=>tl σ H1 fun l H2=>th σ H2 fun u H3=>r x l u H3 Q
theorem OZ {r:V->Option Int->Option Int->Hp->VK->Prop} (hr:WN X r) (he:PE X e te) (hl:PO X lo tl) (hu:PO X hi th):PE X (.Subscript e (.Slice lo hi none p2) pos) (tSl r te tl th):=by
 intro pins s σ H Q I h
 refine Subscript_ (eP (he pins s σ H _ I h) fun v s1 ⟨x,H1,I1,r1,q1⟩=>?_)
 refine wpAny_Slice (eP (hl pins s1 σ H1 _ I1 q1) fun vl s2 ⟨l,H2,I2,pl,q2⟩=>eP (hu pins s2 σ H2 _ I2 q2) fun vu s3 ⟨u,H3,I3,pu,q3⟩=>?_)
 rw [evalPart_none]
 refine wpAny_pure ?_
 have I4:Inv X pins σ H3 { s3 with heap:=s3.heap.push { cls:=.type "slice",data:=.fields #[vl,vu,.none] } }:=I3.kept (t':=s3.toks) fun b ob q=>Heap.get?_push_of_some _ q
 obtain ⟨T,id,hT,ht,hg⟩:=hr pins { s3 with heap:=s3.heap.push { cls:=.type "slice",data:=.fields #[vl,vu,.none] } } σ H3 x v vl vu l u s3.heap.objs.size Q I4 r1 (Heap.IsSliceOf.new ..) pl pu q3
 show wpAny (model X.prog X.w) X.A (subscriptTail e (.Slice lo hi none p2) v (.ref s3.heap.objs.size)) (EP X pins σ Q) X.xe { s3 with heap:=s3.heap.push { cls:=.type "slice",data:=.fields #[vl,vu,.none] } }
 exact tail_any (ops:=[.ref s3.heap.objs.size,v]) ht hT hg (by with_unfolding_all rfl)
noncomputable def CM (xs:List V) (lo hi:Option Int):List V:=(xs.drop (HT.fV xs.length 0 lo)).take (HT.fV xs.length xs.length hi - HT.fV xs.length 0 lo)
theorem rQ (xs:List V) (lo hi:Option Int):(CM xs lo hi).length<=xs.length:=by
 unfold CM
 rw [List.length_take,List.length_drop]
 omega
noncomputable def aFJ (K:PySem.W.Frag):V->Option Int->Option Int->Hp->VK->Prop:=fun x lo hi H Q=>∃ a xs,x=.ref a/\fU K H a xs /\
 ¬ (HT.fV xs.length 0 lo=0/\HT.fV xs.length xs.length hi=xs.length) /\ ∀ p,H p=none->Q (.ref p) (upd H p (.tup (CM xs lo hi)))
theorem Y7:WN X (aFJ X.K):=by
 intro pins s σ H x v vl vu lo hi sl Q I rx hs pl pu h
 obtain ⟨a,xs,rfl,hx,hw,q⟩:=h
 cases rx
 obtain ⟨its,r,ht,hz⟩:=I.tuple hx
 have hlen:its.toArray.size=xs.length:=by rw [List.size_toArray]; exact r.length.symm
 refine ⟨"tuple",_,PyProof.Rows.slot_tuple_getitem.lookup,ht.typeIs,?_⟩
 refine HT.oQ ht hs pl pu (by rw [hlen]; exact hw) ?_ (by rw [hlen]; exact hz)
 rw [hlen]
 refine ⟨.ref s.heap.objs.size,_,I.laid (t':=s.toks) (o:=.tup (CM xs lo hi)) (fun b ob q=>Heap.get?_push_of_some _ q) (Nat.le_refl _) ?_,rfl,q _ (I.hok.fresh (Nat.le_refl _))⟩
 exact ⟨Nat.le_trans (rQ xs lo hi) hz,_,(r.drop (HT.fV xs.length 0 lo)).take (HT.fV xs.length xs.length hi - HT.fV xs.length 0 lo),IsTup.new _ _,CI.new _ _⟩
noncomputable def aBd (K:PySem.W.Frag):R2:=fun x y H Q=>∃ a b xs ys,x=.ref a/\y=.ref b/\fU K H a xs/\fU K H b ys/\xs≠[]/\xs.length+ys.length<=sizeLine /\
 (ys=[]->Q (.ref a) H)/\(ys≠[] -> ∀ p,H p=none->Q (.ref p) (upd H p (.tup (xs++ys))))
theorem Vals.AM {xs:List V} {us:List Value} (r:Vals xs us):us=[]↔xs=[]:=by
 cases r with
 | nil=>simp
 | cons _ _=>simp
theorem UH:iT X (binaryOp .Add) (aBd X.K):=by
 intro pins s σ H x y v u Q I rx ry h
 obtain ⟨a,b,xs,ys,rfl,rfl,ha,hb,hx,hz,q1,q2⟩:=h
 cases rx
 cases ry
 obtain ⟨its,r1,p1,_⟩:=I.tuple ha
 obtain ⟨its2,r2,p2,_⟩:=I.tuple hb
 refine HT.UC p1 p2 (fun z=>hx (r1.AM.mp z)) (fun z=>⟨.ref a,H,I,rfl,q1 (r2.AM.mp z)⟩) (fun z=>?_) (by rw [<- r1.length,<- r2.length]; exact hz)
 refine ⟨.ref s.heap.objs.size,_,I.laid (t':=s.toks) (o:=.tup (xs++ys)) (fun b ob q=>Heap.get?_push_of_some _ q) (Nat.le_refl _) ?_,rfl,q2 (fun w=>z (r2.AM.mpr w)) _ (I.hok.fresh (Nat.le_refl _))⟩
 exact ⟨by rw [List.length_append]; exact hz,_,r1.append r2,IsTup.new _ _,CI.new _ _⟩
end
end L2
namespace L2
open PySem PySem.Spec PyProof.Rows
noncomputable def UI (n:Nat) (i:Int):Option Nat:=if 0<=i then (if i<n then some i.toNat else none) else if -(n:Int)<=i then some (i+n).toNat else none
noncomputable def rR {α:Type} (xs:List α) (i:Int):Option α:=(UI xs.length i).bind fun j=>xs[j]?
theorem IY {n:Nat} {i:Int} {j:Nat} (h:UI n i=some j):seqIndex? i n=some j/\j<n /\ -(n:Int)<=i/\i<n:=by
 unfold UI at h
 by_cases h0:0<=i
 ·rw [if_pos h0] at h
  by_cases h1:i<n
  ·rw [if_pos h1] at h
   have e:i.toNat=j:=Option.some.inj h
   exact ⟨by rw [seqIndex_of h0 h1,e],by omega,by omega,h1⟩
  ·rw [if_neg h1] at h; cases h
 ·rw [if_neg h0] at h
  by_cases h1:-(n:Int)<=i
  ·rw [if_pos h1] at h
   have e:(i+n).toNat=j:=Option.some.inj h
   exact ⟨by rw [seqIndex_neg (by omega) h1,e],by omega,h1,by omega⟩
  ·rw [if_neg h1] at h; cases h
theorem AN {α:Type} {xs:List α} {i:Int} {v:α} (h:rR xs i=some v):∃ j,seqIndex? i xs.length=some j/\xs[j]? = some v/\j<xs.length /\ -(xs.length:Int)<=i/\i<xs.length:=by
 unfold rR at h
 cases e:UI xs.length i with
 | none=>rw [e] at h; cases h
 | some j =>
  rw [e] at h
  obtain ⟨h1,h2,h3,h4⟩:=IY e
  exact ⟨j,h1,h,h2,h3,h4⟩
noncomputable def tG (b:Expr):Prop:=∀ o i,subscripted b false o i=operate [o,i] (getItem o i)
noncomputable def WQ (X:Cx) (r:R2):Prop :=
 ∀ (value slice:Expr) (pins:List (Addr×Obj)) (s:Shared) (σ:St) (H:Hp) (x y:V) (v u:Value) (Q:VK),Inv X pins σ H s->RelV x v->RelV y u->r x y H Q ->
  subscripted slice false v u=operate [v,u] (getItem v u)->wpAny (model X.prog X.w) X.A (subscriptTail value slice v u) (EP X pins σ Q) X.xe s
noncomputable def MtR (X:Cx) (id:String) (r:V->List V->Hp->VK->Prop):Prop :=
 ∀ (pins:List (Addr×Obj)) (s:Shared) (σ:St) (H:Hp) (x:V) (xs:List V) (v:Value) (us:List Value) (Q:VK),Inv X pins σ H s->RelV x v->Vals xs us->r x xs H Q ->
  wpAny (model X.prog X.w) X.A (call (.builtin id) (v::us)) (EP X pins σ Q) X.xe s
section
variable {X:Cx} {a b:Expr} {ta tb:TE} {pos:Pos}
theorem WQ.or {r r':R2} (h:WQ X r) (h':WQ X r'):WQ X (fun x y H Q=>r x y H Q\/r' x y H Q):=by
 intro value slice pins s σ H x y v u Q I rx ry q hs
 rcases q with q | q
 ·exact h value slice pins s σ H x y v u Q I rx ry q hs
 ·exact h' value slice pins s σ H x y v u Q I rx ry q hs
theorem WR {r:R2} (hr:WQ X r) (ha:PE X a ta) (hb:PE X b tb) (hs:tG b):PE X (.Subscript a b pos) (tOp r ta tb):=by
 intro pins s σ H Q I h
 exact Subscript_ (YS ha hb I h fun v u s2 x y H2 I2 rx ry q=>hr a b pins s2 σ H2 x y v u Q I2 rx ry q (hs _ _))
noncomputable def aBf (K:PySem.W.Frag):R2:=fun x y H Q=>∃ p xs i v,x=.ref p/\y=.int i/\fS K H p xs/\rR xs i=some v/\Q v H
noncomputable def aBg (K:PySem.W.Frag):R2:=fun x y H Q=>∃ p xs i v,x=.ref p/\y=.int i/\fU K H p xs/\rR xs i=some v/\Q v H
noncomputable def aBh:R2:=fun x y H Q=>∃ z i c,x=.str z/\y=.int i/\z.length<=sizeLine/\rR z.cps.toList i=some c/\Q (.str ⟨#[c]⟩) H
theorem UJ:WQ X (aBf X.K):=by
 intro value slice pins s σ H x y v u Q I rx ry h hs
 obtain ⟨p,xs,i,z,rfl,rfl,hq,he,q⟩:=h
 cases rx
 obtain ⟨t,rfl⟩:=ry
 obtain ⟨its,r,pl,hz⟩:=I.list hq
 obtain ⟨j,h1,h2,h3,h4,h5⟩:=AN he
 obtain ⟨w,ew,CA⟩:=r.get h2
 have hl:=r.length
 have hn:=qH
 have fin:EP X pins σ Q w s:=⟨z,H,I,CA,q⟩
 by_cases h0:0<=i
 ·have hj:i.toNat=j:=by
   rw [seqIndex_of h0 h5] at h1
   exact Option.some.inj h1
  exact item_listR pl.isList h0 (by omega) (by rw [hj]; simpa using ew) fin hs
 ·have hj:(i+(its.toArray.size:Int)).toNat=j:=by
   rw [seqIndex_neg (by omega) h4] at h1
   rw [List.size_toArray,<- hl]
   exact Option.some.inj h1
  exact subscriptTail_builtinR (x:=w) pl.isList.typeIs slot_list_getitem.lookup
   (wpAny_getItem_list_neg (Q:=fun r s'=>r=w/\EP X pins σ Q r s') pl.isList (by omega) (by rw [List.size_toArray]<;>omega) (by omega) (by rw [hj]; simpa using ew) ⟨rfl,fin⟩) hs
theorem Y8:WQ X (aBg X.K):=by
 intro value slice pins s σ H x y v u Q I rx ry h hs
 obtain ⟨p,xs,i,z,rfl,rfl,hq,he,q⟩:=h
 cases rx
 obtain ⟨t,rfl⟩:=ry
 obtain ⟨its,r,pl,hz⟩:=I.tuple hq
 obtain ⟨j,h1,h2,h3,h4,h5⟩:=AN he
 obtain ⟨w,ew,CA⟩:=r.get h2
 have hl:=r.length
 have hn:=qH
 have fin:EP X pins σ Q w s:=⟨z,H,I,CA,q⟩
 exact subscriptTail_builtinR (x:=w) pl.typeIs slot_tuple_getitem.lookup
  (getItem_tuple (j:=j) (Q:=fun r s'=>r=w/\EP X pins σ Q r s') pl (by omega) (by omega) (by rw [List.size_toArray,<- hl]; exact h1) (by simpa using ew) ⟨rfl,fin⟩) hs
theorem Y9:WQ X aBh:=by
 intro value slice pins s σ H x y v u Q I rx ry h hs
 obtain ⟨z,i,c,rfl,rfl,hz,he,q⟩:=h
 obtain ⟨t,rfl⟩:=rx
 obtain ⟨t',rfl⟩:=ry
 obtain ⟨j,h1,h2,h3,h4,h5⟩:=AN he
 have hl:z.cps.toList.length=z.length:=by simp [Str.length]
 rw [hl] at h1 h4 h5
 have hn:=qH
 exact tail_any (typeIs_str s z t) slot_str_getitem.lookup (getItem_str (c:=c) (by
  have e1:decide (i < -(2 ^ 63:Int))=false:=decide_eq_false (by omega)
  have e2:decide (i >= 2 ^ 63)=false:=decide_eq_false (by omega)
  rw [e1,e2,Bool.or_false]) (by rw [h1]; simpa using h2) ⟨.str ⟨#[c]⟩,H,I.tok _,⟨_,rfl⟩,q⟩) hs
theorem Inv.lst {pins:List (Addr×Obj)} {σ:St} {H:Hp} {s:Shared} {p:Addr} {xs:List V} (I:Inv X pins σ H s) (h:H p=some (.lst xs)) :
  ∃ (its:List Value) (n:Nat),Vals xs its/\s.heap.get? p=some { cls:=.type "list",data:=.seq its.toArray n }/\xs.length<=sizeLine:=by
 obtain ⟨z,its,n,r,e⟩:=I.hok p _ h
 exact ⟨its,n,r,e,z⟩
theorem AO (lo hi:Option Int) (n:Nat):(sliceBounds lo hi none n).1=((HT.fV n 0 lo:Nat):Int)/\(sliceBounds lo hi none n).2.1=((HT.fV n n hi:Nat):Int)/\(sliceBounds lo hi none n).2.2=1:=by
 refine ⟨?_,?_,rfl⟩
 ·cases lo with
  | none=>simp [sliceBounds,HT.fV]
  | some i =>
   simp only [sliceBounds,HT.fV,Option.getD_none,show (1:Int)>0 by decide,if_true]
   by_cases h:i<0
   ·simp only [h,if_true]<;>omega
   ·simp only [h,if_false]<;>omega
 ·cases hi with
  | none=>simp [sliceBounds,HT.fV]
  | some i =>
   simp only [sliceBounds,HT.fV,Option.getD_none,show (1:Int)>0 by decide,if_true]
   by_cases h:i<0
   ·simp only [h,if_true]<;>omega
   ·simp only [h,if_false]<;>omega
theorem wZ (its:List Value) (lo hi:Option Int):slicePick its.toArray lo hi none=((its.drop (HT.fV its.length 0 lo)).take (HT.fV its.length its.length hi - HT.fV its.length 0 lo)).toArray:=by
 obtain ⟨h1,h2,h3⟩:=AO lo hi its.toArray.size
 unfold slicePick
 rw [h1,h2,h3]
 simp only [sliceRange_one,pick_run,List.size_toArray]<;>rfl
noncomputable def aFK (K:PySem.W.Frag):V->Option Int->Option Int->Hp->VK->Prop:=fun x lo hi H Q=>∃ a xs,x=.ref a/\fS K H a xs /\ ∀ p,H p=none->Q (.ref p) (upd H p (.lst (CM xs lo hi)))
theorem UK:WN X (aFK X.K):=by
 intro pins s σ H x v vl vu lo hi sl Q I rx hs pl pu h
 obtain ⟨a,xs,rfl,hx,q⟩:=h
 cases rx
 obtain ⟨its,r,ht,hz⟩:=I.list hx
 have hlen:=r.length
 refine ⟨"list",_,slot_list_getitem.lookup,ht.isList.typeIs,?_⟩
 refine wpAny_getItem_list_slice ht.isList hs pl pu .none (by simp) ?_ (by rw [List.size_toArray]<;>omega)
 rw [wZ,<- hlen]
 refine ⟨.ref s.heap.objs.size,_,I.laid (t':=s.toks) (o:=.lst (CM xs lo hi)) (fun b ob q=>Heap.get?_push_of_some _ q) (Nat.le_refl _) ?_,rfl,q _ (I.hok.fresh (Nat.le_refl _))⟩
 exact ⟨Nat.le_trans (rQ xs lo hi) hz,_,0,(r.drop (HT.fV xs.length 0 lo)).take (HT.fV xs.length xs.length hi - HT.fV xs.length 0 lo),Heap.get?_push_size _ rfl⟩
noncomputable def oR:V->Bool
 | .non=>true
 | .bl _=>true
 | .int _=>true
 | .str _=>true
 | _=>false
noncomputable def WU:V->V->Bool
 | .non,.non=>true
 | .bl a,.bl b=>a == b
 | .bl a,.int b=>(if a then 1 else 0) == b
 | .int a,.bl b=>a == (if b then 1 else 0)
 | .int a,.int b=>a == b
 | .str a,.str b=>a == b
 | _,_=>false
theorem ZA {A:Around} {s:Shared} {y x:V} {u v:Value} (ry:RelV y u) (rx:RelV x v) (fy:oR y=true) (fx:oR x=true):SeqAt.EqAt A s u v (WU y x):=by
 cases y with
 | non =>
  cases ry
  cases x with
  | non=>cases rx; exact SeqAt.EqAt.same _
  | bl b=>cases rx; exact SeqAt.EqAt.none_bool b
  | int b=>obtain ⟨t,rfl⟩:=rx; exact SeqAt.EqAt.none_int b t
  | str b=>obtain ⟨t,rfl⟩:=rx; exact SeqAt.EqAt.none_str b t
  | _=>exact absurd (show false=true from fx) Bool.false_ne_true
 | bl a =>
  cases ry
  cases x with
  | non=>cases rx; exact SeqAt.EqAt.bool_none a
  | bl b=>cases rx; exact SeqAt.EqAt.bool_bool a b
  | int b=>obtain ⟨t,rfl⟩:=rx; exact SeqAt.EqAt.bool_int a b t
  | str b=>obtain ⟨t,rfl⟩:=rx; exact SeqAt.EqAt.bool_str a b t
  | _=>exact absurd (show false=true from fx) Bool.false_ne_true
 | int a =>
  obtain ⟨t',rfl⟩:=ry
  cases x with
  | non=>cases rx; exact SeqAt.EqAt.int_none a t'
  | bl b=>cases rx; exact SeqAt.EqAt.int_bool a t' b
  | int b=>obtain ⟨t,rfl⟩:=rx; exact SeqAt.EqAt.int_int a t' b t
  | str b=>obtain ⟨t,rfl⟩:=rx; exact SeqAt.EqAt.int_str a t' b t
  | _=>exact absurd (show false=true from fx) Bool.false_ne_true
 | str a =>
  obtain ⟨t',rfl⟩:=ry
  cases x with
  | non=>cases rx; exact SeqAt.EqAt.str_none a t'
  | bl b=>cases rx; exact SeqAt.EqAt.str_bool a t' b
  | int b=>obtain ⟨t,rfl⟩:=rx; exact SeqAt.EqAt.str_int a t' b t
  | str b=>obtain ⟨t,rfl⟩:=rx; exact SeqAt.EqAt.str_str a t' b t
  | _=>exact absurd (show false=true from fx) Bool.false_ne_true
 | _=>exact absurd (show false=true from fy) Bool.false_ne_true
noncomputable def FO (x:V) (u:Value):Bool:=match u with
 | .none=>WU .non x
 | .bool b=>WU (.bl b) x
 | .int i _=>WU (.int i) x
 | .str z _=>WU (.str z) x
 | _=>false
theorem O0 {x y:V} {u:Value} (r:RelV y u) (f:oR y=true):FO x u=WU y x:=by
 cases y with
 | non=>cases r; rfl
 | bl b=>cases r; rfl
 | int i=>obtain ⟨t,rfl⟩:=r; rfl
 | str z=>obtain ⟨t,rfl⟩:=r; rfl
 | _=>exact absurd (show false=true from f) Bool.false_ne_true
theorem oS {x:V}:∀ {xs:List V} {us:List Value},Vals xs us->xs.all oR=true->us.any (FO x)=xs.any fun y=>WU y x
 | _,_,.nil,_=>rfl
 | y::xs,u::us,.cons r t,f=>by
  rw [List.all_cons,Bool.and_eq_true] at f
  rw [List.any_cons,List.any_cons,O0 r f.1,oS t f.2]
theorem kQ {A:Around} {s:Shared} {x:V} {v:Value} (rx:RelV x v) (fx:oR x=true):∀ {xs:List V} {us:List Value},Vals xs us->xs.all oR=true -> ∀ u∈us,SeqAt.EqAt A s u v (FO x u)
 | _,_,.nil,_=>fun u hu=>by cases hu
 | y::xs,u::us,.cons r t,f=>fun u' hu=>by
  rw [List.all_cons,Bool.and_eq_true] at f
  rcases List.mem_cons.mp hu with rfl | hu
  ·rw [O0 r f.1]; exact ZA r rx f.1 fx
  ·exact kQ rx fx t f.2 u' hu
noncomputable def inV (x:V) (xs:List V):Bool:=xs.any fun y=>WU y x
noncomputable def rIn (K:PySem.W.Frag) (neg:Bool):R2:=fun x y H Q=>∃ p xs,y=.ref p/\(fS K H p xs\/fU K H p xs)/\oR x=true/\xs.all oR=true/\Q (.bl (if neg then !inV x xs else inV x xs)) H
theorem yA:iT X (compareOp .In) (rIn X.K false):=by
 intro pins s σ H x y v u Q I rx ry h
 obtain ⟨p,xs,rfl,hq,fx,fs,q⟩:=h
 cases ry
 rcases hq with hq | hq
 ·obtain ⟨its,r,pl,hz⟩:=I.list hq
  refine SeqAt.in_listAt (FO x) pl.isList (fun w hw=>kQ rx fx r fs w (by simpa using hw)) ⟨.bl _,H,I,rfl,?_⟩
  rw [show its.toArray.any (FO x)=its.any (FO x) by simp,oS r fs]
  exact q
 ·obtain ⟨its,r,pl,hz⟩:=I.tuple hq
  refine SeqAt.in_tupleAt (FO x) pl (fun w hw=>kQ rx fx r fs w (by simpa using hw)) ⟨.bl _,H,I,rfl,?_⟩
  rw [show its.toArray.any (FO x)=its.any (FO x) by simp,oS r fs]
  exact q
theorem AQ:iT X (compareOp .NotIn) (rIn X.K true):=by
 intro pins s σ H x y v u Q I rx ry h
 obtain ⟨p,xs,rfl,hq,fx,fs,q⟩:=h
 cases ry
 rcases hq with hq | hq
 ·obtain ⟨its,r,pl,hz⟩:=I.list hq
  refine SeqAt.notIn_listAt (FO x) pl.isList (fun w hw=>kQ rx fx r fs w (by simpa using hw)) ⟨.bl _,H,I,rfl,?_⟩
  rw [show its.toArray.any (FO x)=its.any (FO x) by simp,oS r fs]
  exact q
 ·obtain ⟨its,r,pl,hz⟩:=I.tuple hq
  refine SeqAt.notIn_tupleAt (FO x) pl (fun w hw=>kQ rx fx r fs w (by simpa using hw)) ⟨.bl _,H,I,rfl,?_⟩
  rw [show its.toArray.any (FO x)=its.any (FO x) by simp,oS r fs]
  exact q
theorem AR:fK X (.builtin "len") (fun xs H Q=>∃ p ys,xs=[.ref p]/\(fS X.K H p ys\/fU X.K H p ys)/\Q (.int ys.length) H):=by
 intro pins s σ H xs us Q I r h
 obtain ⟨p,ys,rfl,hq,q⟩:=h
 obtain ⟨u,rfl,rx⟩:=vals1 r
 cases rx
 have hn:=qH
 rcases hq with hq | hq
 ·obtain ⟨its,r',pl,hz⟩:=I.list hq
  have hlen:=r'.length
  exact Calls.call_len_list pl.isList (by simp only [List.size_toArray]<;>omega) ⟨.int ys.length,H,I.tok _,⟨s.toks+1,by rw [List.size_toArray,hlen]⟩,q⟩
 ·obtain ⟨its,r',pl,hz⟩:=I.tuple hq
  have hlen:=r'.length
  exact len_tuple pl (by simp only [List.size_toArray]<;>omega) ⟨.int ys.length,H,I.tok _,⟨s.toks+1,by rw [List.size_toArray,hlen]⟩,q⟩
theorem AS:fK X (.builtin "len") (fun xs H Q=>∃ z,xs=[.str z]/\z.length<=sizeLine/\Q (.int z.length) H):=by
 intro pins s σ H xs us Q I r h
 obtain ⟨z,rfl,hz,q⟩:=h
 obtain ⟨u,rfl,t,rfl⟩:=vals1 r
 have hn:=qH
 exact len_str (by omega) ⟨.int z.length,H,I.tok _,⟨_,rfl⟩,q⟩
theorem w4:fK X (.type "tuple") (fun xs H Q=>∃ p ys,xs=[.ref p]/\((fS X.K H p ys /\ ∀ l,H l=none->Q (.ref l) (upd H l (.tup ys)))\/(fU X.K H p ys/\Q (.ref p) H))):=by
 intro pins s σ H xs us Q I r h
 obtain ⟨p,ys,rfl,h⟩:=h
 obtain ⟨u,rfl,rx⟩:=vals1 r
 cases rx
 rcases h with ⟨hq,q⟩ | ⟨hq,q⟩
 ·obtain ⟨its,r',pl,hz⟩:=I.list hq
  have hlen:=r'.length
  refine call_tuple_list pl.isList (fun h' kp=>?_) (by simp only [List.size_toArray]<;>omega)
  have I1:Inv X pins σ H { s with heap:=h' }:=I.kept (t':=s.toks) kp
  have I2:Inv X pins σ (upd H h'.objs.size (.tup ys)) { s with heap:=h'.push { cls:=.type "tuple",data:=.seq its.toArray } } :=
   I1.laid (t':=s.toks) (fun b o e=>Heap.get?_push_of_some _ e) (Nat.le_refl _) (show dA X.prog X.w _ _ _ (.tup ys) from ⟨hz,its,r',IsTup.new _ _,CI.new _ _⟩)
  exact ⟨.ref h'.objs.size,_,I2,rfl,q _ (I1.hok.fresh (Nat.le_refl _))⟩
 ·obtain ⟨its,r',pl,hz⟩:=I.tuple hq
  exact call_tuple_same pl ⟨.ref p,H,I,rfl,q⟩
noncomputable def tyV (K:PySem.W.Frag) (T:String) (x:V) (H:Hp):Prop:=match x with
 | .str _=>T = "str"
 | .int _=>T = "int"
 | .ref p=>(T = "list" /\ ∃ xs,fS K H p xs)\/(T = "tuple" /\ ∃ o,K.lookup p=some o/\o.cls=.type "tuple" /\ o.dict=none) \/
   (T = "dict" /\ ((∃ kvs,H p=some (.dK kvs)) \/ ∃ kvs,H p=some (.dT kvs)))\/(T = "set" /\ ∃ S n,H p=some (.set S n))\/(T = "tuple" /\ ∃ xs,H p=some (.tup xs))
 | _=>False
theorem ZC {pins:List (Addr×Obj)} {σ:St} {H:Hp} {s:Shared} {T:String} {x:V} {v:Value} (I:Inv X pins σ H s) (r:RelV x v) (ty:tyV X.K T x H) :
  s.TypeIs v T /\ ∀ a,v=.ref a -> ∃ ob,s.heap.get? a=some ob/\ob.dict=none:=by
 cases x with
 | str z =>
  obtain ⟨t,rfl⟩:=r
  cases (show T = "str" from ty)
  exact ⟨typeIs_str s z t,fun _ e=>nomatch e⟩
 | int i =>
  obtain ⟨t,rfl⟩:=r
  cases (show T = "int" from ty)
  exact ⟨typeIs_int s i t,fun _ e=>nomatch e⟩
 | ref p =>
  cases r
  rcases ty with ⟨rfl,xs,hq⟩ | ⟨rfl,o,hk,hc,hd⟩ | ⟨rfl,hk⟩ | ⟨rfl,S,n,hk⟩ | ⟨rfl,xs,hk⟩
  ·obtain ⟨its,_,pl,_⟩:=I.list hq
   refine ⟨pl.isList.typeIs,fun a e=>?_⟩
   cases e
   obtain ⟨o,n,e,c,hd,_⟩:=pl
   exact ⟨o,e,hd⟩
  ·refine ⟨⟨o,I.wM p o hk,hc⟩,fun a e=>?_⟩
   cases e
   exact ⟨o,I.wM _ o hk,hd⟩
  ·have z:∃ o,s.heap.get? p=some o/\o.ExactDict:=by
    rcases hk with ⟨kvs,hk⟩ | ⟨kvs,hk⟩
    ·obtain ⟨_,_,_,_,o,_,_,e,ex,_⟩:=I.hok p _ hk
     exact ⟨o,e,ex⟩
    ·obtain ⟨_,_,_,_,o,_,_,e,ex,_⟩:=I.hok p _ hk
     exact ⟨o,e,ex⟩
   obtain ⟨o,e,ex⟩:=z
   refine ⟨⟨o,e,ex.1⟩,fun a e2=>?_⟩
   cases e2
   exact ⟨o,e,ex.2.1⟩
  ·obtain ⟨o,_,_,_,e,ex,_⟩:=I.hok p _ hk
   refine ⟨⟨o,e,ex.1⟩,fun a e2=>?_⟩
   cases e2
   exact ⟨o,e,ex.2.1⟩
  ·obtain ⟨_,_,_,⟨o,e,c,_⟩,nd⟩:=I.hok p _ hk
   refine ⟨⟨o,e,c⟩,fun a e2=>?_⟩
   cases e2
   exact ⟨o,e,nd _ e⟩
 | _=>exact False.elim ty
noncomputable def tBM (K:PySem.W.Frag) (T:String) (r:V->List V->Hp->VK->Prop) (to:TE) (t:TA):TE:=fun σ H Q=>to σ H fun x H1=>tyV K T x H1/\t σ H1 fun xs H2=>r x xs H2 Q
variable {o e:Expr} {es:List Expr} {to:TE} {t:TA} {name:Str} {apos cpos:Pos} {T id:String} {r:V->List V->Hp->VK->Prop}
theorem IZ (pa:PlainAttrs T) (slot:Slot T name id) (hty:typeOf (.builtin id)=pure (.type "method_descriptor")) (hm:MtR X id r) (ho:PE X o to) (ha:PA X (e::es) t)
  (hbase:attributeBase o name X.env (eval o X.env)=eval o X.env:=by rfl)
  (hfew:((backTo cpos (starEach (e::es) X.env)).all (fun x=>!x.1)&&(backToKw cpos (keywordEach [] X.env)).all (fun x=>x.1.isSome)
   && decide ((e::es).length+([]:List Keyword).length+(if ([]:List Keyword).isEmpty then 0 else 1)<30))=true:=by rfl)
  (hline:(apos.endLine == cpos.line)=true:=by rfl) (hs:starEach (e::es) X.env=(false,eval e X.env)::starEach es X.env:=by rfl) (hplain:(backTo cpos (starEach es X.env)).any (·.1)=false:=by rfl) :
  PE X (.Call (.Attribute o name apos) (e::es) [] cpos) (tBM X.K T r to t):=by
 intro pins s σ H Q I h
 refine wpAny_Call_method_late hbase hfew hline rfl (eP (ho pins s σ H _ I h) fun v s1 ⟨x,H1,I1,r1,ty,q1⟩=>?_)
 obtain ⟨h1,h2⟩:=ZC I1 r1 ty
 refine ⟨T,id,pa,slot,hty,h1,h2,?_⟩
 have hA:=ha cpos pins s1 σ H1 _ I1 q1
 rw [hs] at hA ⊢
 refine Calls.callWith_builtin (by show (false||(backTo cpos (starEach es X.env)).any (·.1))=false; rw [hplain]<;>rfl) (Calls.evalArgs_plain ?_)
 exact eP hA fun us s2 hq5=>by obtain ⟨vs,H2,I2,r2,q2⟩:=hq5; exact hm pins s2 σ H2 x vs v us Q I2 r1 r2 q2
end
end L2
namespace L2
open PySem PySem.Spec PyProof.Rows
noncomputable def MtM (X:Cx) (id:String) (r:V->List V->Hp->VK->Prop):Prop :=
 ∀ (pins:List (Addr×Obj)) (s:Shared) (σ:St) (H:Hp) (x:V) (xs:List V) (v:Value) (us:List Value) (Q:VK),Inv X pins σ H s->RelV x v->Vals xs us->r x xs H Q ->
  wpAny (model X.prog X.w) X.A (call (.builtin id) (v::us)) (EP X pins σ Q) X.xe s
theorem Vals.one:∀ {x:V} {us:List Value},Vals [x] us -> ∃ u,us=[u]/\RelV x u
 | _,_,.cons r .nil=>⟨_,rfl,r⟩
theorem Vals.eraseIdx:∀ {xs:List V} {us:List Value} (i:Nat),Vals xs us->Vals (xs.eraseIdx i) (us.eraseIdx i)
 | _,_,_,.nil=>.nil
 | _,_,0,.cons _ t=>t
 | _,_,i+1,.cons r t=>.cons r (Vals.eraseIdx i t)
theorem Vals.rep {xs:List V} {us:List Value} (h:Vals xs us):∀ k:Nat,Vals (List.replicate k xs).flatten (List.replicate k us).flatten
 | 0=>.nil
 | k+1=>by
  rw [List.replicate_succ,List.replicate_succ,List.flatten_cons,List.flatten_cons]
  exact Vals.append h (Vals.rep h k)
theorem yB {α:Type}:∀ (l:List α) (i:Nat),(l.eraseIdx i).length<=l.length
 | [],_=>Nat.le_refl _
 | _::_,0=>Nat.le_succ _
 | _::r,i+1=>Nat.succ_le_succ (yB r i)
theorem foldl_rep (its:List Value):∀ (k:Nat) (acc:List Value),
  List.foldl (fun x1 x2=>x1++x2) acc.toArray (List.replicate k its.toArray)=(acc++(List.replicate k its).flatten).toArray
 | 0,acc=>by simp
 | k+1,acc=>by
  have e:acc.toArray++its.toArray=(acc++its).toArray:=by simp
  have e2:(acc++its)++(List.replicate k its).flatten=acc++(List.replicate (k+1) its).flatten:=by
   rw [List.replicate_succ,List.flatten_cons,List.append_assoc]
  rw [<- e2,<- foldl_rep its k (acc++its),<- e,List.replicate_succ,List.foldl_cons]
section
variable {X:Cx} {pins:List (Addr×Obj)} {σ:St} {H:Hp} {s:Shared} {l b:Addr} {xs ys zs:List V}
theorem Inv.UL {its its':List Value} {n:Nat} {f:Array Value->Array Value} {t':Nat} (I:Inv X pins σ H s) (hH:H l=some (.lst xs))
  (e:s.heap.get? l=some { cls:=.type "list",data:=.seq its.toArray n }) (hf:f its.toArray=its'.toArray) (hv:Vals ys its') (hz:ys.length<=sizeLine) :
  Inv X pins σ (upd H l (.lst ys)) { s with heap:=s.heap.update l (Obj.mapSeq f),toks:=t' }:=by
 have q:=PySem.IsL.update e f
 rw [hf] at q
 refine I.write (x:=l) (e:=l) (by rw [hH]; exact trivial) (.inl rfl) (fun b' u hb hu=>(Heap.get?_update_other s.heap (Obj.mapSeq f) (Ne.symm hb)).trans hu) ⟨_,q⟩ ?_
 exact ⟨hz,its',_,hv,q⟩
theorem Inv.ZD {its:List Value} {t':Nat} (I:Inv X pins σ H s) (hv:Vals ys its) (hz:ys.length<=sizeLine) :
  Inv X pins σ (upd H s.heap.objs.size (.lst ys)) { s with heap:=s.heap.push { cls:=.type "list",data:=.seq its.toArray },toks:=t' } :=
 I.laid (fun _ _ q=>Heap.get?_push_of_some _ q) (Nat.le_refl _) ⟨hz,its,0,hv,Heap.get?_push_size _ rfl⟩
theorem Inv.fresh (I:Inv X pins σ H s):H s.heap.objs.size=none:=I.hok.fresh (Nat.le_refl _)
theorem Inv.AU (I:Inv X pins σ H s) (hH:H l=some (.lst xs)):xs.length<=sizeLine /\ ∃ (its:List Value) (n:Nat),Vals xs its/\xs.length=its.length/\s.heap.get? l=some { cls:=.type "list",data:=.seq its.toArray n }:=by
 obtain ⟨z,its,n,r,e⟩:=I.hok l _ hH
 exact ⟨z,its,n,r,r.length,e⟩
theorem CN {n:Nat} (h:n<=sizeLine):Builtin.List.listTooLong n=false:=by
 unfold Builtin.List.listTooLong
 exact decide_eq_false (by omega)
end
section
variable {X:Cx}
noncomputable def I0:V->List V->Hp->VK->Prop:=fun x vs H Q=>∃ l xs y,x=.ref l/\vs=[y]/\H l=some (.lst xs)/\xs.length<sizeLine/\Q .non (upd H l (.lst (xs++[y])))
theorem yC:MtM X "list.append" I0:=by
 intro pins s σ H x vs v us Q I rx rv h
 obtain ⟨l,xs,y,rfl,rfl,hH,hz,q⟩:=h
 cases rx
 obtain ⟨u,rfl,ru⟩:=rv.one
 obtain ⟨z,its,n,r,hl,e⟩:=I.AU hH
 refine call_meets F.slot_list_append ⟨_,e,rfl⟩ F.entry_list_append (F.args_list_append_2 _ _) (PySem.list_append l its.toArray n u (by rw [List.size_toArray]; omega)) ⟨e,?_⟩
 refine ⟨.non,_,I.UL (its':=its++[u]) hH e (by simp) (r.append (.cons ru .nil)) ?_,rfl,q⟩
 rw [List.length_append,List.length_singleton]
 omega
noncomputable def JA:V->List V->Hp->VK->Prop:=fun x vs H Q=>∃ l b xs zs,x=.ref l/\vs=[.ref b]/\H l=some (.lst xs)/\H b=some (.lst zs)/\xs.length+zs.length<=sizeLine/\Q .non (upd H l (.lst (xs++zs)))
theorem K4:MtM X "list.extend" JA:=by
 intro pins s σ H x vs v us Q I rx rv h
 obtain ⟨l,b,xs,zs,rfl,rfl,hH,hB,hz,q⟩:=h
 cases rx
 obtain ⟨u,rfl,ru⟩:=rv.one
 cases ru
 obtain ⟨z,its,n,r,hl,e⟩:=I.AU hH
 obtain ⟨z2,its2,n2,r2,hl2,e2⟩:=I.AU hB
 have hsz:its.toArray.size+its2.toArray.size<=sizeLine:=by rw [List.size_toArray,List.size_toArray]; omega
 have O1:¬ (!its.toArray.isEmpty&&Builtin.List.listTooLong (its.toArray.size+its2.toArray.size))=true:=by
  rw [CN hsz,Bool.and_false]
  exact Bool.false_ne_true
 refine call_meets F.slot_list_extend ⟨_,e,rfl⟩ F.entry_list_extend (F.args_list_extend_2 _ _)
  (AutoSeq1.list_extend_list_list_0 l its.toArray n b its2.toArray n2 O1 (by rw [List.size_toArray]; omega) (by omega)) ⟨e,e2,?_⟩
 refine ⟨.non,_,I.UL (its':=its++its2) hH e (by simp) (r.append r2) ?_,rfl,q⟩
 rw [List.length_append]
 omega
noncomputable def O2:V->List V->Hp->VK->Prop:=fun x vs H Q=>∃ l xs i k y,x=.ref l/\vs=[.int i]/\H l=some (.lst xs) /\ -(2 ^ 63)<=i/\i<2 ^ 63/\seqIndex? i xs.length=some k/\xs[k]? = some y/\Q y (upd H l (.lst (xs.eraseIdx k)))
theorem O5:MtM X "list.pop" O2:=by
 intro pins s σ H x vs v us Q I rx rv h
 obtain ⟨l,xs,i,k,y,rfl,rfl,hH,h1,h2,hk,hy,q⟩:=h
 cases rx
 obtain ⟨u,rfl,ru⟩:=rv.one
 obtain ⟨t,rfl⟩:=ru
 obtain ⟨z,its,n,r,hl,e⟩:=I.AU hH
 obtain ⟨w,hw,CA⟩:=r.get hy
 refine call_meets F.slot_list_pop ⟨_,e,rfl⟩ F.entry_list_pop (F.args_list_pop_2 _ _)
  (MeetsSeq.list_pop_at l its.toArray n i t k w (fitsIndex_both h1 h2) (by rw [List.size_toArray,<- hl]; exact hk) (by rw [<- Array.getElem?_toList]; exact hw) (by rw [List.size_toArray]; omega)) ⟨e,?_⟩
 refine ⟨y,_,I.UL (its':=its.eraseIdx k) hH e ?_ (r.eraseIdx k) ?_,CA,q⟩
 ·show its.toArray.eraseIdxIfInBounds k=(its.eraseIdx k).toArray
  rw [List.eraseIdxIfInBounds_toArray]
 ·have:=yB xs k
  omega
noncomputable def aBi:R2:=fun x y H Q=>∃ l b xs zs,x=.ref l/\y=.ref b/\H l=some (.lst xs)/\H b=some (.lst zs)/\xs.length+zs.length<=sizeLine /\ ∀ p,H p=none->Q (.ref p) (upd H p (.lst (xs++zs)))
theorem O6:iT X (binaryOp .Add) aBi:=by
 intro pins s σ H x y v u Q I rx ry h
 obtain ⟨l,b,xs,zs,rfl,rfl,hH,hB,hz,q⟩:=h
 cases rx
 cases ry
 obtain ⟨z,its,n,r,hl,e⟩:=I.AU hH
 obtain ⟨z2,its2,n2,r2,hl2,e2⟩:=I.AU hB
 refine PySem.P.add_list e e2 ?_ (by rw [List.size_toArray,List.size_toArray]; omega)
 have ea:its.toArray++its2.toArray=(its++its2).toArray:=by simp
 rw [ea]
 exact ⟨.ref _,_,I.ZD (t':=s.toks) (r.append r2) (by rw [List.length_append]; omega),rfl,q _ I.fresh⟩
noncomputable def aFO:R2:=fun x y H Q=>∃ l k xs,x=.ref l/\y=.int k/\H l=some (.lst xs) /\ -(2 ^ 63)<=k/\k<2 ^ 63/\xs.length*k.toNat<=sizeLine /\
 ∀ p,H p=none->Q (.ref p) (upd H p (.lst (List.replicate k.toNat xs).flatten))
theorem len_rep {α:Type} (xs:List α) (k:Nat):(List.replicate k xs).flatten.length=k*xs.length:=by
 induction k with
 | zero=>simp
 | succ k ih=>rw [List.replicate_succ,List.flatten_cons,List.length_append,ih,Nat.succ_mul,Nat.add_comm]
theorem ZE:iT X (binaryOp .Mult) aFO:=by
 intro pins s σ H x y v u Q I rx ry h
 obtain ⟨l,k,xs,rfl,rfl,hH,h1,h2,hz,q⟩:=h
 cases rx
 obtain ⟨t,rfl⟩:=ry
 obtain ⟨z,its,n,r,hl,e⟩:=I.AU hH
 have hlen:its.toArray.size*k.toNat<=sizeLine:=by rw [List.size_toArray,<- hl]; exact hz
 have hcap:¬ its.toArray.size*k.toNat>(2 ^ 63 - 1) / 8:=by
  have:(sizeLine:Nat)<=(2 ^ 63 - 1) / 8:=by decide
  omega
 have hfit:¬ (!Builtin.List.listFitsIndex k)=true:=by
  rw [fitsIndex_both h1 h2]
  exact Bool.false_ne_true
 have O1:¬ Builtin.List.listTooLong (its.toArray.size*k.toNat)=true:=by
  rw [CN hlen]
  exact Bool.false_ne_true
 have hnew:List.foldl (fun x1 x2=>x1++x2) #[] (List.replicate (if its.toArray.isEmpty=true then 0 else k.toNat) its.toArray)=(List.replicate k.toNat its).flatten.toArray:=by
  have f0:∀ m:Nat,List.foldl (fun x1 x2=>x1++x2) #[] (List.replicate m its.toArray)=(List.replicate m its).flatten.toArray:=fun m=>by
   have:=foldl_rep its m []
   rw [List.nil_append] at this
   exact this
  rw [f0]
  cases its with
  | nil=>simp
  | cons a r'=>rw [if_neg (by simp)]
 refine wpAny_binaryOp_repeat_ref (T := "list") (U := "int") (by decide) ⟨_,e,rfl⟩ (fun s'=>typeIs_int s' k t) noFill_list_mul F.fills_int_mul F.slot_int_rmul repeat_list F.slot_int_index.lookup
  (call_meets F.slot_int_rmul (typeIs_int s k t) F.entry_int_rmul (F.args_int_rmul_2 _ _) (int___rmul___int_list k t l its.toArray n)
   ⟨e,rfl,⟨_,e,rfl⟩,call_meets F.slot_list_mul ⟨_,e,rfl⟩ F.entry_list_mul (F.args_list_mul_2 _ _) (AutoListH.list___mul___list_int_3 l its.toArray n k t hfit hcap O1) ⟨e,?_⟩⟩)
 rw [hnew]
 exact ⟨.ref _,_,I.ZD (t':=s.toks) (r.rep k.toNat) (by rw [len_rep,Nat.mul_comm]; exact hz),rfl,q _ I.fresh⟩
end
section
variable {prog:Program} {w:World} {A:Around} {E:Value->Shared->Prop} {s:Shared}
set_option maxRecDepth 100000 in
end
section
variable {X:Cx}
end
end L2
namespace Att
open PySem PySem.W PySem.Calls PyProof.Rows
theorem sP {P:Params} {h:Heap}:∀ (ns:List Int) (vs:List Value),WellAll P h vs (ns.map WData.int)->IntsAre vs ns:=by
 intro ns
 induction ns with
 | nil =>
  intro vs w
  rw [List.map_nil] at w
  cases w
  exact .nil
 | cons n ns ih =>
  intro vs w
  rw [List.map_cons] at w
  cases w with
  | cons a b =>
   cases a
   exact .cons _ _ (ih _ b)
theorem K5 {l:OpenLaw} {n:Nat} (hn:l.most=some n) {P:Params} {h:Heap} {args:List WData} {vals:List Value}
  (hpre:l.row.toRowW.claim.pre args=true) (hwl:WellAll P h vals args) :
  ∃ a vs ns,vals=[Value.ref a]/\args=[WData.list (ns.map WData.int)]/\h.get? a=some { cls:=.type "list",data:=.seq vs.toArray }/\IntsAre vs ns/\ns.length<=n:=by
 have hsh:WShape.hasAll [] args [.list .int]=true:=(pre_splitW hpre).1
 have hc:l.pre.holds [] { args:=args }=true:=(pre_splitW hpre).2
 obtain ⟨d,r,rfl,h1,h2⟩:=hasAllW_cons hsh
 obtain rfl:=hasAllW_nil h2
 obtain ⟨xs,rfl,h3⟩:=hasW_list h1
 obtain ⟨ns,rfl⟩:=items_int h3
 have hlen:ns.length<=n:=by
  unfold OpenLaw.pre at hc
  have h4:(WTm.not (.lt (.lit (.int (n:Int))) (.len (.arg 0)))).holds [] { args:=[.list (ns.map .int)] }=true:=by
   have h4:=(holds_andW hc).1
   rw [hn] at h4
   exact h4
  have h5:=condW_of h4 (w_not (w_lt w_lit (w_len_list (w_arg rfl))))
  rw [List.length_map] at h5
  refine Nat.le_of_not_lt fun q=>?_
  have q':(n:Int)<((ns.length:Nat):Int):=by omega
  first
   | (rw [decide_eq_true q'] at h5; exact absurd h5 (by decide))
   | (simp at h5; omega)
 cases hwl with
 | cons w1 w2 =>
  cases w2
  cases w1 with
  | list ho hall=>exact ⟨_,_,ns,rfl,rfl,ho,sP ns _ hall,hlen⟩
theorem K6 (l:OpenLaw) (args:List WData):l.row.toRowW.claim.post args (.bool true) args=true :=
 postW_of (r:=l.row.toRowW) (X:=(true == true))
  (show WShape.has [] (.bool true) .bool=true by first | rfl | decide | simp [WShape.has,WShape.arms,WShape.armsAll])
  (show (WTm.eq .res (.lit (.bool true))).value [] { args:=args,res:=some (.bool true),after:=args }=some (.bool (true == true)) from w_eq_bool (w_res rfl) w_lit) rfl
theorem CO {l:OpenLaw} {n:Nat} {q:Program} {loose:List Str} {XP:(Str->Option Value)->Heap->Prop} {YP:World->Heap->Prop} {d:DefRec}
  (hn:l.most=some n) (hdf:d.params.defaults=[])
  (call:∀ (w:World) (s₀ s₁:Shared) (mg mb:Str->Option Value) (fa:Addr) (o:Obj) (pm cd doc:Value) (a:Addr) (vs:List Value) (ns:List Int),
   Ground q loose [] XP w s₀ mg mb s₁.heap->YP w s₁.heap ->
   s₁.heap.get? fa=some o->o.data=.func (docDef d.name d.params d.body d.scope pm cd doc)->s₁.heap.CodeRec cd d.name->mg d.name=some (.ref fa) ->
   s₁.heap.get? a=some { cls:=.type "list",data:=.seq vs.toArray }->IntsAre vs ns->ns.length<=n->s₁.gens=#[] ->
   codeAny (model l.prog w) callerA (.call (.ref fa) ⟨[.ref a],[]⟩) (fun r s'=>r=.ok (.ret (.bool true))/\OldK s₁.heap s'.heap/\s'.os=s₁.os/\AllBare s'.gens) s₁) :
  WalkO q loose XP YP l.row.toRowW d [] (fun f vs=>PySem.call f vs):=by
 intro w s₀ s₁ mg mb G Y fa o pm cd doc dV kV ho hd hcd hD hmg hg args vals as hpre hlay hrd hwl hlo
 obtain rfl:dV=.none:=Dflts.none hD hdf
 obtain rfl:kV=.none:=Dflts.noKw hD
 obtain ⟨a,vs,ns,rfl,rfl,hobj,hints,hlen⟩:=K5 hn hpre hwl
 refine enter_call (codeAny_mono (call w s₀ s₁ mg mb fa o pm cd doc a vs ns G Y ho (fd_plain hd) hcd hmg hobj hints hlen hg) fun r s' hq=>?_)
 obtain ⟨rfl,h2,h3,h4⟩:=hq
 exact ⟨.inl ⟨.bool true,.bool true,[],rfl,fun _=>rfl,.bool true,K6 l _,fun _=>⟨List.Pairwise.nil,fun _ hm=>(nomatch hm)⟩⟩,h2,h3,h4⟩
section
variable {prog:Program} {w:World} {A:Around} {E:Value->Shared->Prop} {s:Shared} {K:Frag}
noncomputable def uU (h:Heap):Heap:={ h with objs:=#[] }
theorem nK (h:Heap) (b:Addr):(uU h).get? b=none:=by
 cases e:(uU h).get? b with
 | none=>rfl
 | some o=>exact absurd (Heap.lt_size e) (Nat.not_lt_zero _)
noncomputable def ledger (h:Heap) (L d:Addr):List (Addr×Obj):=(List.range h.objs.size).filterMap fun a=>if a=L\/a=d then none else (h.get? a).map fun o=>(a,o)
theorem gD {h:Heap} {L d a:Addr} {o:Obj}:(a,o)∈ledger h L d↔a≠L/\a≠d/\h.get? a=some o:=by
 unfold ledger
 rw [List.mem_filterMap]
 constructor
 ·rintro ⟨b,_,e⟩
  split at e
  ·cases e
  ·rename_i hb
   obtain ⟨o',ho,e'⟩:=Option.map_eq_some_iff.mp e
   cases e'
   exact ⟨fun q=>hb (.inl q),fun q=>hb (.inr q),ho⟩
 ·rintro ⟨n1,n2,ho⟩
  refine ⟨a,List.mem_range.mpr (Heap.lt_size ho),?_⟩
  rw [if_neg (show ¬ (a=L\/a=d) from fun q=>q.elim n1 n2),ho]<;>rfl
theorem O7 {h:Heap} {L:Addr} {m:Str->Option Value} (n:h.Ns L m):Fr (uU h) L h m :=
 ⟨n,fun b o e=>(by rw [nK] at e; cases e),Nat.zero_le _⟩
end
end Att
namespace L2
open PySem PySem.Spec PyProof.Rows
theorem lP:∀ {vs:List Value} {ns:List Int},IntsAre vs ns->Vals (ns.map V.int) vs
 | _,_,.nil=>.nil
 | _,_,.cons n t h=>.cons ⟨t,rfl⟩ (lP h)
noncomputable def Only (H:Hp):Prop:=∀ b,H b=none\/(∃ o xs,H b=some (.uP o (.lst xs))) \/ ∃ q,H b=some (.IJ q)
structure TabsOk (K:PySem.W.Frag) (q:Program):Prop where
 nd:((eE K).map (·.2.2)).Nodup
 rc:∀ t∈eE K,∃ e,(recsOf q).find? (fun e=>e.name == t.1)=some e
theorem FQ {K:PySem.W.Frag} {t:Str×Addr×Addr} (h:t∈eE K):PySem.W.tabIn K t.1=some (t.2.1,t.2.2):=by
 obtain ⟨x,_,e⟩:=List.mem_filterMap.mp h
 cases q:PySem.W.tabIn K x with
 | none=>rw [q] at e; cases e
 | some p=>rw [q] at e; cases e; exact q
noncomputable def FR (K:PySem.W.Frag) (a:Addr) (u:Option HO):Hp:=fun b=>if b=a then u else ((eE K).find? fun t=>t.2.2 == b).map fun t=>.IJ (TN t.1)
theorem K7 {l:List (Str×Addr×Addr)} (nd:(l.map (·.2.2)).Nodup) {t:Str×Addr×Addr} (h:t∈l):l.find? (fun u=>u.2.2 == t.2.2)=some t:=by
 induction l with
 | nil=>cases h
 | cons u l ih =>
  rw [List.map_cons,List.nodup_cons] at nd
  rw [List.find?_cons]
  by_cases e:(u.2.2 == t.2.2)=true
  ·rw [e]
   rcases List.mem_cons.1 h with z | z
   ·rw [z]
   ·exact absurd (List.mem_map.2 ⟨t,z,(eq_of_beq e).symm⟩) nd.1
  ·rw [Bool.not_eq_true] at e
   rw [e]
   rcases List.mem_cons.1 h with z | z
   ·rw [z,beq_self_eq_true] at e; cases e
   ·exact ih nd.2 z
theorem O8 {P:Program} {w:World} {K:PySem.W.Frag} {mg mb:Str->Option Value} {CX:K2} {k:Nat} {fa a:Addr} {fd:FuncData} {x:Str} {sp:Sp} {s₁:Shared} {vs:List Value} {ns:List Int}
  (KX:K.In s₁.heap) (hns:s₁.heap.Ns mainGlobals mg) (hb:s₁.heap.Ns builtinsNs mb) (hbb:∀ x:Str,x ≠ "__name__" -> mb x=bootBuiltins x) (hlim:s₁.heap.NoLimit)
  (hbm:∃ bm ob,mg "__builtins__" = some (.ref bm)/\bm≠builtinsNs/\s₁.heap.get? bm=some ob/\ob.cls=.type "module" /\ ob.dict=some builtinsNs/\ob.data=.plain)
  (hT:∀ t∈eE K,PySem.W.CodeHd s₁.heap t.2.1 t.2.2/\s₁.heap.get? t.2.2=some (PySem.W.tabObj #[])) (hnd:((eE K).map (·.2.2)).Nodup) (hnt:PySem.W.noTabs K=true) (hg:s₁.gens=#[])
  (ha:s₁.heap.get? a=some { cls:=.type "list",data:=.seq vs.toArray }) (hi:IntsAre vs ns) (hl:ns.length<=sizeLine) (hr:iU k callerA)
  (F:∀ base:Heap,K.In base->base.Ns mainGlobals mg->aU P w K mg base CX k fa fd [x] sp) (hbind:∀ (s:Shared) (u:Value),BindsTo s fd ⟨[u],[]⟩ [(x,u)])
  (hsp:∀ H:Hp,Only H->fS K H a (ns.map V.int)->sp [.ref a] H (fun v _=>v=.bl true) fun _ _ _=>False)
  (hCX:∀ H e s',CX [] H s₁ (fun _ _ _=>False) e s'->False) :
  codeAny (model P w) callerA (.call (.ref fa) ⟨[.ref a],[]⟩) (fun r s'=>r=.ok (.ret (.bool true))/\OldK s₁.heap s'.heap/\s'.os=s₁.os/\AllBare s'.gens) s₁:=by
 have rv:=lP hi
 have lenV:=hi.length
 have neA:∀ t∈eE K,t.2.2≠a:=fun t ht z=>by
  have e:=(hT t ht).2
  rw [z,ha] at e
  cases e
 -- a tracked address: the script or a table
 have core:∀ u:Option HO,(u=none \/ ∃ o xs,u=some (.uP o (.lst xs)))->fS K (FR K a u) a (ns.map V.int)->(∀ v,u=some v->dA P w (FR K a u) s₁.heap a v)->(u≠none->K.lookup a=none) ->
   codeAny (model P w) callerA (.call (.ref fa) ⟨[.ref a],[]⟩) (fun r s'=>r=.ok (.ret (.bool true))/\OldK s₁.heap s'.heap/\s'.os=s₁.os/\AllBare s'.gens) s₁:=by
  intro u hu hS aBj hK
  obtain ⟨H,eH⟩:∃ H,FR K a u=H:=⟨_,rfl⟩
  have wL:∀ t∈eE K,H t.2.2=some (.IJ (TN t.1)):=fun t ht=>by
   rw [<- eH]
   unfold FR
   rw [if_neg (neA t ht),K7 hnd ht]
   rfl
  have qK:∀ b,H b=none\/(b=a/\H b=u/\u≠none) \/ ∃ t∈eE K,t.2.2=b/\H b=some (.IJ (TN t.1)):=fun b=>by
   by_cases hb:b=a
   ·cases hu2:u with
    | none=>left; rw [<- eH]; unfold FR; rw [if_pos hb,hu2]
    | some v=>right; left; refine ⟨hb,?_,by simp⟩; rw [<- eH]; unfold FR; rw [if_pos hb,hu2]
   ·cases q:(eE K).find? fun t=>t.2.2 == b with
    | none=>left; rw [<- eH]; unfold FR; rw [if_neg hb,q]; rfl
    | some t =>
     have e1:t.2.2=b:=eq_of_beq (List.find?_some (p:=fun t:Str×Addr×Addr=>t.2.2 == b) q)
     have e2:=List.mem_of_find?_eq_some q
     exact .inr (.inr ⟨t,e2,e1,by rw [<- e1]; exact wL t e2⟩)
  rw [eH] at hS aBj
  have hO:Only H:=fun b=>by
   rcases qK b with z | ⟨_,z,_⟩ | ⟨t,_,_,z⟩
   ·exact .inl z
   ·rcases hu with y | ⟨o,xs,y⟩
    ·exact .inl (z.trans y)
    ·exact .inr (.inl ⟨o,xs,z.trans y⟩)
   ·exact .inr (.inr ⟨_,z⟩)
  have hok:nH P w H s₁.heap:=fun b v e=>by
   rcases qK b with z | ⟨rfl,z,_⟩ | ⟨t,ht,rfl,z⟩
   ·rw [z] at e; cases e
   ·exact aBj v (by rw [<- z]; exact e)
   ·rw [z] at e
    cases e
    exact ⟨#[],(hT t ht).2,trivial,fun pos cv e=>by cases e⟩
  -- an object that is neither the script nor a table is not tracked
  have O9:∀ {b:Addr} {o:Obj},s₁.heap.get? b=some o->o.cls≠.none->(∀ ys n,o.data≠.seq ys n)->H b=none:=fun {b o} e hc hs=>by
   rcases qK b with z | ⟨rfl,_,_⟩ | ⟨t,ht,rfl,z⟩
   ·exact z
   ·rw [ha] at e; cases e; exact absurd rfl (hs _ _)
   ·rw [(hT t ht).2] at e; cases e; exact absurd rfl hc
  have nsN:∀ {b:Addr} {o:Obj} {es:Array DictEntry} {ep:Nat},s₁.heap.get? b=some o->o.data=.dict es ep->H b=none:=fun {b o es ep} e d=>by
   rcases qK b with z | ⟨rfl,_,_⟩ | ⟨t,ht,rfl,z⟩
   ·exact z
   ·rw [ha] at e; cases e; cases d
   ·rw [(hT t ht).2] at e; cases e; cases d
  have tH:∀ {b:Addr} {o:Obj},s₁.heap.get? b=some o->H b=none->(wW s₁.heap H).get? b=some o:=fun e n=>OM e n
  have nsK:∀ {b:Addr} {m:Str->Option Value},s₁.heap.Ns b m->(wW s₁.heap H).Ns b m:=fun {b m} ⟨o,es,ep,e,d,r⟩=>⟨o,es,ep,tH e (nsN e d),d,r⟩
  have hKb:K.In (wW s₁.heap H):=fun b o e=>tH (KX b o e) (by
   rcases qK b with z | ⟨rfl,_,z⟩ | ⟨t,ht,rfl,z⟩
   ·exact z
   ·rw [hK z] at e; cases e
   ·have e2:=KX _ o e
    rw [(hT t ht).2] at e2
    cases e2
    have h2:=List.all_eq_true.mp hnt (t.2.2,PySem.W.tabObj #[]) (PySem.W.mem_of_lookupK e)
    exact absurd (show false=true from h2) Bool.false_ne_true)
  have hM:Mod K mg (wW s₁.heap H):=⟨hKb,nsK hns,⟨mb,nsK hb,hbb⟩,let ⟨mc,h1,h2⟩:=hlim; ⟨mc,nsK h1,h2⟩,
   let ⟨bm,ob,b1,b2,b3,b4,b5,b6⟩:=hbm; ⟨bm,ob,b1,b2,tH b3 (O9 b3 (by rw [b4]; nofun) fun ys n z=>by rw [b6] at z; cases z),b4,b5,b6⟩⟩
  have aFQ:TQ K (wW s₁.heap H) H:=fun t ht=>by
   obtain ⟨o,vs',file,tf,flags,tg,inF,text,tt,e1,r1,r2,r3⟩:=(hT t ht).1
   exact ⟨⟨o,vs',file,tf,flags,tg,inF,text,tt,tH e1 (O9 e1 (by rw [r1]; nofun) fun ys n z=>by rw [r2] at z; cases z),r1,r2,r3⟩,wL t ht⟩
  have e0:UB P w K mg (wW s₁.heap H) callerA [] s₁ H:=⟨rfl,hM,fun b o e=>TL e,Nat.le_of_eq (KQ _ _),trivial,fun b hb=>absurd (show b∈([]:List Addr) from hb) (by simp),hok,.of_eq hg,aFQ⟩
  refine codeAny_mono ((F _ hKb (nsK hns)).run callerA [] s₁ H ⟨[.ref a],[]⟩ [.ref a] [.ref a] _ _ hr e0 (hbind s₁ (.ref a)) (.cons rfl .nil) (hsp H hO hS)) fun r s' h=>?_
  cases r with
  | error e=>exact (hCX H e s' h).elim
  | ok fl =>
   cases fl with
   | next=>exact False.elim h
   | brk=>exact False.elim h
   | cont=>exact False.elim h
   | ret v =>
    obtain ⟨y,H',os,bare,un,hok',r',q⟩:=h
    have q':y=.bl true:=q
    subst q'
    obtain rfl:v=Value.bool true:=r'
    have old:∀ b o,s₁.heap.get? b=some o->asItWas s₁.heap s'.heap b o /\ ∃ o',s'.heap.get? b=some o':=fun b o e=>by
     rcases qK b with z | ⟨rfl,z,hne⟩ | ⟨t,ht,rfl,z⟩
     ·have k:=un.keep b o e z (by intro z; exact absurd (show b∈([]:List Addr) from z) (by simp)) (by simp)
      exact ⟨.inl k,o,k⟩
     ·rcases hu with y | ⟨ob,xs,y⟩
      ·exact absurd y hne
      ·have z1:=z.trans y
       have z2:=un.oI b ob _ z1
       obtain ⟨e1,_⟩:=hok b _ z1
       obtain ⟨e2,_⟩:=hok' b _ z2
       rw [e] at e1; cases e1
       exact ⟨.inl e2,o,e2⟩
     ·obtain ⟨ps,e2,_⟩:=hok' _ _ (un.nI _ _ z)
      have e1:=(hT t ht).2
      rw [e] at e1
      cases e1
      exact ⟨.inr (.inl ⟨((hT t ht).1.tab (hT t ht).2).isCodeTable,rfl,#[],ps,rfl,by rw [e2,Array.empty_append]⟩),_,e2⟩
    exact ⟨rfl,⟨fun b o e=>(old b o e).1,fun b o e=>(old b o e).2⟩,os,bare⟩
 cases hk:K.lookup a with
 | some o =>
  -- the script is one of the module's own objects
  have e:=KX a o hk
  rw [ha] at e
  cases e
  exact core none (.inl rfl) (.inr ⟨_,vs.toArray,_,hk,rfl,rfl,rfl,by rw [List.size_toArray,lenV]; exact hl,by simpa using rv⟩) (fun v z=>by cases z) fun z=>absurd rfl z
 | none =>
  refine core (some (.uP { cls:=.type "list",data:=.seq vs.toArray } (.lst (ns.map V.int)))) (.inr ⟨_,_,rfl⟩) (.inl (.inr ⟨{ cls:=.type "list",data:=.seq vs.toArray },if_pos rfl⟩)) (fun v z=>?_) fun _=>hk
  cases z
  exact ⟨ha,by rw [List.length_map]; exact hl,vs,_,rv,ha⟩
end L2
namespace L2
open PySem PySem.Spec PyProof.Rows
noncomputable abbrev KOf {K:PySem.W.Frag} {h:Heap} (_:K.In h):PySem.W.Frag:=K
theorem UM {l:PySem.W.OpenLaw} {n k:Nat} {q:Program} {loose:List Str} {XP:(Str->Option Value)->Heap->Prop} {YP:World->Heap->Prop} {d:DefRec} {K:Params->PySem.W.Frag} {CX:World->K2} {sp:World->Sp} {x:Str}
  (hn:l.most=some n) (hn2:n<=sizeLine) (hdf:d.params.defaults=[]) (hr:iU k callerA)
  (hY:∀ (w:World) (h:Heap),YP w h->(K w.params).In h)
  (hTb:∀ w:World,TabsOk (K w.params) q) (hnt:∀ w:World,PySem.W.noTabs (K w.params)=true)
  (F:∀ (w:World) (mg:Str->Option Value) (fa:Addr) (h:Heap),(K w.params).In h->h.Ns mainGlobals mg->mg d.name=some (.ref fa) ->
   ∃ fd:FuncData,(∀ (s:Shared) (u:Value),BindsTo s fd ⟨[u],[]⟩ [(x,u)]) /\
    ∀ base:Heap,(K w.params).In base->base.Ns mainGlobals mg->aU l.prog w (K w.params) mg base (CX w) k fa fd [x] (sp w))
  (hsp:∀ (w:World) (H:Hp) (a:Addr) (ns:List Int),ns.length<=n->Only H->fS (K w.params) H a (ns.map V.int)->sp w [.ref a] H (fun v _=>v=.bl true) fun _ _ _=>False)
  (hCX:∀ (w:World) (H:Hp) (s:Shared) (e:Value) (s':Shared),CX w [] H s (fun _ _ _=>False) e s'->False) :
  PySem.W.WalkO q loose XP YP l.row.toRowW d [] (fun f vs=>PySem.call f vs):=by
 refine Att.CO hn hdf fun w s₀ s₁ mg mb fa o pm cd doc a vs ns G Y ho hd hcd hmg hobj hints hlen hg=>?_
 have KX:=hY w _ Y
 obtain ⟨fd,hb,hF⟩:=F w mg fa _ KX G.T.g hmg
 have hT:∀ t∈eE (K w.params),PySem.W.CodeHd s₁.heap t.2.1 t.2.2/\s₁.heap.get? t.2.2=some (PySem.W.tabObj #[]):=fun t ht=>by
  obtain ⟨e,he⟩:=(hTb w).rc t ht
  exact PySem.W.tab_of G.T KX he (FQ ht)
 exact O8 KX G.T.g G.T.b G.T.builtins G.T.nolimit G.T.bmain hT (hTb w).nd (hnt w) hg hobj hints (Nat.le_trans hlen hn2) hr hF hb (fun H hO hS=>hsp w H a ns hlen hO hS) fun H e s'=>hCX w H s₁ e s'
end L2
namespace L2
open PySem PySem.Spec PyProof.Rows
noncomputable def bK (s:Stmt):Arguments:=match s with
 | .FunctionDef _ a _ _ _ _ _ _ _ _=>a
 | _=>{ posonlyargs:=[],args:=[],vararg:=none,kwonlyargs:=[],kw_defaults:=[],kwarg:=none,defaults:=[] }
noncomputable def bD (s:Stmt):List Stmt:=match s with
 | .FunctionDef _ _ b _ _ _ _ _ _ _=>b
 | _=>[]
noncomputable def aI (s:Stmt):Scope:=match s with
 | .FunctionDef _ _ _ _ _ _ sc _ _ _=>sc
 | _=>{ kind:=.function,names:=[],isGenerator:=false,isCoroutine:=false }
noncomputable abbrev d8:K2:=fun _ _ _ _ _ _=>False
noncomputable abbrev E0:XK:=fun _ _ _=>False
theorem aBk {X:Cx}:Passes d8 X E0:=fun _ _ _ _ _ _ _ h=>h.elim
structure nL (K:PySem.W.Frag) (x qual:Str) (st:Stmt) (f:Addr) (fd:FuncData):Prop where
 ex:∃ (oc:Value) (od:Option Addr) (kV doc pm:Value) (an:Option Addr) (cdv ct:Value) (osl:Array (Option Value)),
  fd=PySem.W.fnOf x qual (bK st) (bD st) (aI st) .none kV doc pm an cdv ct/\K.lookup f=some ⟨oc,od,.func fd,osl⟩/\PySem.W.codeIn K cdv qual=true
 kp:PySem.W.keepIn K (.ref f)=true
section
variable {P:Program} {w:World} {K:PySem.W.Frag} {mg:Str->Option Value} {base:Heap}
theorem nL.ok {x qual:Str} {st:Stmt} {f:Addr} {fd:FuncData} {N ps:List Str} {k:Nat} {sp:Sp} (F:nL K x qual st f fd) (S:bJ N ps (aI st)) (len:∀ vs H Q E,sp vs H Q E->vs.length=ps.length)
  (hbody:∀ (cdv:Value) (A:Around) (outer:List Env) (s:Shared) (H:Hp) (vs:List V) (Q:VK) (E:XK),iU k (A.deeper (envOfC qual (aI st) s.heap.objs.size f cdv))->sp vs H Q E ->
   ∃ t,FF (qI d8 P w K mg base N qual (aI st) f cdv A outer s H E).WD (bD st) t/\t { nx:=fun _ H'=>Q .non H',rt:=Q } (start N vs) H):aU P w K mg base d8 (k+1) f fd ps sp:=by
 obtain ⟨oc,od,kV,doc,pm,an,cdv,ct,osl,rfl,lk,hcd⟩:=F.ex
 refine WM lk hcd S len fun A outer s H vs Q E hr hsp=>?_
 obtain ⟨t,h,q⟩:=hbody cdv A outer s H vs Q E hr hsp
 exact ⟨t,h.WD,q⟩
theorem nL.binds {x qual:Str} {st:Stmt} {f:Addr} {fd:FuncData} {ps:List Str} (F:nL K x qual st f fd)
  (h:∀ (kV doc pm:Value) (an:Option Addr) (cdv ct:Value) (us:List Value),us.length=ps.length->bindArgs (PySem.W.fnOf x qual (bK st) (bD st) (aI st) .none kV doc pm an cdv ct) ⟨us,[]⟩=pure (ps.zip us)):Binds K fd ps []:=by
 obtain ⟨oc,od,kV,doc,pm,an,cdv,ct,osl,rfl,lk,hcd⟩:=F.ex
 exact .all (h kV doc pm an cdv ct)
theorem dC {x qual:Str} {st:Stmt} {f:Addr} {oc:Value} {od an:Option Addr} {osl:Array (Option Value)} {kV doc pm cdv ct:Value} (l:K.lookup f=some ⟨oc,od,.func (PySem.W.fnOf x qual (bK st) (bD st) (aI st) .none kV doc pm an cdv ct),osl⟩)
  (c:PySem.W.codeIn K cdv qual=true) (k:PySem.W.keepIn K (.ref f)=true):nL K x qual st f (PySem.W.fnOf x qual (bK st) (bD st) (aI st) .none kV doc pm an cdv ct):=⟨⟨oc,od,kV,doc,pm,an,cdv,ct,osl,rfl,l,c⟩,k⟩
end
section
variable {X:Cx}
end
noncomputable def Same (H H':Hp):Prop:=∀ b o,H b=some o->H' b=some o
theorem Same.refl (H:Hp):Same H H:=fun _ _ h=>h
theorem Same.trans {H H1 H2:Hp} (a:Same H H1) (b:Same H1 H2):Same H H2:=fun c o h=>b c o (a c o h)
theorem Same.free {H H':Hp} (e:Same H H') {l:Addr} (h:H' l=Option.none):H l=Option.none:=by
 cases q:H l with
 | none=>rfl
 | some o =>
  rw [e l o q] at h
  cases h
end L2
namespace L2
open PySem PySem.Spec PyProof.Rows
section
variable {κ:Type} [DecidableEq κ]
noncomputable def fT (kvs:List (κ×V)) (k:κ):Option V:=(kvs.find? fun kv=>decide (kv.1=k)).map (·.2)
noncomputable def putK (kvs:List (κ×V)) (k:κ) (v:V):List (κ×V) :=
 if (kvs.any fun kv=>decide (kv.1=k))=true then kvs.map (fun kv=>if kv.1=k then (kv.1,v) else kv) else kvs++[(k,v)]
theorem eQ {p:κ×V} {r:List (κ×V)} {k:κ} (e:p.1=k):fT (p::r) k=some p.2:=by simp [fT,List.find?_cons,e]
theorem eR {p:κ×V} {r:List (κ×V)} {k:κ} (e:¬ p.1=k):fT (p::r) k=fT r k:=by simp [fT,List.find?_cons,e]
theorem kR (k:κ):∀ kvs:List (κ×V),(kvs.any fun kv=>decide (kv.1=k))=(fT kvs k).isSome
 | []=>rfl
 | p::r=>by
  rw [List.any_cons]
  by_cases e:p.1=k
  ·simp only [eQ e,decide_eq_true e,Bool.true_or,Option.isSome_some]
  ·rw [eR e,decide_eq_false e,Bool.false_or]; exact kR k r
theorem CP (k j:κ) (y:V):∀ kvs:List (κ×V),fT (kvs.map fun kv=>if kv.1=k then (kv.1,y) else kv) j=(fT kvs j).map fun x=>if j=k then y else x
 | []=>rfl
 | p::r=>by
  have ih:=CP k j y r
  rw [List.map_cons]
  by_cases h:p.1=k
  ·rw [if_pos h]
   by_cases e:p.1=j
   ·rw [eQ (p:=(p.1,y)) e,eQ e,Option.map_some,if_pos (e.symm.trans h)]
   ·rw [eR (p:=(p.1,y)) e,eR e,ih]
  ·rw [if_neg h]
   by_cases e:p.1=j
   ·rw [eQ (p:=p) e,eQ e,Option.map_some,if_neg (fun z=>h (e.trans z))]
   ·rw [eR (p:=p) e,eR e,ih]
theorem yD (k j:κ) (y:V):∀ kvs:List (κ×V),fT kvs k=none->fT (kvs++[(k,y)]) j=if j=k then some y else fT kvs j
 | [],_=>by
  by_cases e:k=j
  ·rw [if_pos e.symm]; exact eQ (p:=(k,y)) e
  ·rw [if_neg (fun z=>e z.symm)]; exact eR (p:=(k,y)) e
 | p::r,hn=>by
  rw [List.cons_append]
  have hk:¬ p.1=k:=fun z=>by rw [eQ z] at hn; cases hn
  rw [eR hk] at hn
  have ih:=yD k j y r hn
  by_cases e:p.1=j
  ·rw [eQ e,eQ e,if_neg (fun z=>hk (e.trans z))]
  ·rw [eR e,eR e,ih]
theorem PB (kvs:List (κ×V)) (k j:κ) (y:V):fT (putK kvs k y) j=if j=k then some y else fT kvs j:=by
 unfold putK
 by_cases a:(kvs.any fun kv=>decide (kv.1=k))=true
 ·rw [if_pos a,CP]
  rw [kR] at a
  by_cases e:j=k
  ·obtain ⟨x,hx⟩:=Option.isSome_iff_exists.mp a
   rw [if_pos e,e,hx,Option.map_some,if_pos rfl]
  ·rw [if_neg e]
   cases fT kvs j with
   | none=>rfl
   | some x=>rw [Option.map_some,if_neg e]
 ·rw [if_neg a]
  refine yD k j y kvs ?_
  rw [kR] at a
  cases q:fT kvs k with
  | none=>rfl
  | some x=>rw [q] at a; exact (a rfl).elim
theorem rS (kvs:List (κ×V)) (k:κ) (v:V):(putK kvs k v).length<=kvs.length+1:=by
 unfold putK
 split
 ·rw [List.length_map]; omega
 ·rw [List.length_append,List.length_cons,List.length_nil]; omega
theorem PC {kvs:List (κ×V)} {k:κ} (v:V) (h:fT kvs k=none):putK kvs k v=kvs++[(k,v)]:=by
 unfold putK
 rw [kR,h]
 exact if_neg (by decide)
theorem nG.yE {o:Option V} {u:Option Value} (r:nG o u):o.isSome=u.isSome:=by
 cases o with
 | none=>cases u with
  | none=>rfl
  | some _=>exact (show False from r).elim
 | some _=>cases u with
  | none=>exact (show False from r).elim
  | some _=>rfl
theorem nG.getD {o:Option V} {u:Option Value} {d:V} {d':Value} (r:nG o u) (rd:RelV d d'):RelV (o.getD d) (u.getD d'):=by
 cases o with
 | none=>cases u with
  | none=>exact rd
  | some _=>exact (show False from r).elim
 | some _=>cases u with
  | none=>exact (show False from r).elim
  | some _=>exact r
theorem KV.val {kvs:List (κ×V)} {vs:List (κ×Value)} (r:KV kvs vs) (k:κ):nG (fT kvs k) (valueAt vs k):=by
 unfold KV at r
 induction r with
 | nil=>exact True.intro
 | @cons p q ps qs h t ih =>
  obtain ⟨h1,h2⟩:=h
  by_cases e:p.1=k
  ·have e':q.1=k:=h1.symm.trans e
   have b:valueAt (q::qs) k=some q.2:=by simp [valueAt,List.find?_cons,e']
   rw [eQ e,b]; exact h2
  ·have e':¬ q.1=k:=fun z=>e (h1.trans z)
   have b:valueAt (q::qs) k=valueAt qs k:=by simp [valueAt,List.find?_cons,e']
   rw [eR e,b]; exact ih
theorem KV.any {kvs:List (κ×V)} {vs:List (κ×Value)} (r:KV kvs vs) (k:κ):(kvs.any fun kv=>decide (kv.1=k))=vs.any fun kv=>decide (kv.1=k):=by
 unfold KV at r
 induction r with
 | nil=>rfl
 | cons h t ih=>rw [List.any_cons,List.any_cons,ih,h.1]
theorem KV.repl {kvs:List (κ×V)} {vs:List (κ×Value)} (r:KV kvs vs) (k:κ) {y:V} {u:Value} (ry:RelV y u) :
  KV (kvs.map fun kv=>if kv.1=k then (kv.1,y) else kv) (vs.map fun kv=>if kv.1=k then (kv.1,u) else kv):=by
 unfold KV at r ⊢
 induction r with
 | nil=>exact .nil
 | @cons p q ps qs h t ih =>
  rw [List.map_cons,List.map_cons]
  refine .cons ?_ ih
  obtain ⟨h1,h2⟩:=h
  by_cases e:p.1=k
  ·rw [if_pos e,if_pos (h1.symm.trans e)]; exact ⟨h1,ry⟩
  ·rw [if_neg e,if_neg (fun z=>e (h1.trans z))]; exact ⟨h1,h2⟩
theorem KV.put {kvs:List (κ×V)} {vs:List (κ×Value)} (r:KV kvs vs) (k:κ) {y:V} {u:Value} (ry:RelV y u):KV (putK kvs k y) (stored vs k u):=by
 unfold putK stored
 rw [r.any k]
 by_cases e:(vs.any fun kv=>decide (kv.1=k))=true
 ·rw [if_pos e,if_pos e]; exact r.repl k ry
 ·rw [if_neg e,if_neg e]; exact Paired.snoc r ⟨rfl,ry⟩
theorem KV.length {kvs:List (κ×V)} {vs:List (κ×Value)} (r:KV kvs vs):kvs.length=vs.length:=Paired.length r
end
theorem PD {P:Program} {w:World} {k:Key} {u:Value} (r:RelV (kV k) u):(bB P w).is k u=true:=by
 cases k with
 | inl i=>obtain ⟨t,e⟩:=(show ∃ t,u=Value.int i t from r); subst e; exact CG P w i t
 | inr x=>obtain ⟨t,e⟩:=(show ∃ t,u=Value.str x t from r); subst e; exact CH P w x t
theorem yF {P:Program} {w:World}:∀ {ks:List Key} {us:List Value},Vals (ks.map kV) us->ItemsAre (bB P w) ks us
 | [],_,r=>by rw [List.map_nil] at r; cases r; exact .nil
 | k::ks,_,r=>by
  rw [List.map_cons] at r
  cases r with
  | cons h t=>exact .cons (PD h) (yF t)
noncomputable abbrev KT (H:Hp):List (List Key×V)->List (List Key×Addr×Value)->Prop:=Paired fun p q=>p.1=q.1/\H q.2.1=some (.tup (p.1.map kV))/\RelV p.2 q.2.2
theorem KT.val {H:Hp} {kvs:List (List Key×V)} {xs:List (List Key×Addr×Value)} (r:KT H kvs xs) (k:List Key):nG (fT kvs k) ((atKey xs k).map (·.2)):=by
 induction r with
 | nil=>exact True.intro
 | @cons p q ps qs h t ih =>
  obtain ⟨h1,_,h2⟩:=h
  by_cases e:p.1=k
  ·have e':q.1=k:=h1.symm.trans e
   have b:atKey (q::qs) k=some q.2:=by simp [atKey,List.find?_cons,e']
   rw [eQ e,b]; exact h2
  ·have e':¬ q.1=k:=fun z=>e (h1.trans z)
   have b:atKey (q::qs) k=atKey qs k:=by simp [atKey,List.find?_cons,e']
   rw [eR e,b]; exact ih
theorem KT.repl {H:Hp} {kvs:List (List Key×V)} {xs:List (List Key×Addr×Value)} (r:KT H kvs xs) (k:List Key) {y:V} {u:Value} (ry:RelV y u) :
  KT H (kvs.map fun kv=>if kv.1=k then (kv.1,y) else kv) (xs.map (putAt k u)):=by
 induction r with
 | nil=>exact .nil
 | @cons p q ps qs h t ih =>
  rw [List.map_cons,List.map_cons]
  refine .cons ?_ ih
  obtain ⟨h1,h2,h3⟩:=h
  unfold putAt
  by_cases e:p.1=k
  ·rw [if_pos e,if_pos (h1.symm.trans e)]; exact ⟨h1,h2,ry⟩
  ·rw [if_neg e,if_neg (fun z=>e (h1.trans z))]; exact ⟨h1,h2,h3⟩
theorem KT.put {H:Hp} {kvs:List (List Key×V)} {xs:List (List Key×Addr×Value)} (r:KT H kvs xs) (k:List Key) {b:Addr} {y:V} {u:Value} (hb:H b=some (.tup (k.map kV))) (ry:RelV y u) :
  KT H (putK kvs k y) (storedH xs k b u):=by
 have e:(kvs.any fun kv=>decide (kv.1=k))=(atKey xs k).isSome:=by
  rw [kR,(r.val k).yE,Option.isSome_map]
 unfold putK storedH
 rw [e]
 by_cases q:(atKey xs k).isSome=true
 ·rw [if_pos q,if_pos q]; exact r.repl k ry
 ·rw [if_neg q,if_neg q]; exact Paired.snoc r ⟨rfl,hb,ry⟩
theorem KT.keeps {H H':Hp} {kvs:List (List Key×V)} {xs:List (List Key×Addr×Value)} (r:KT H kvs xs) (ht:∀ b ys,H b=some (.tup ys)->H' b=some (.tup ys)):KT H' kvs xs :=
 Paired.YD r fun _ _ z=>⟨z.1,ht _ _ z.2.1,z.2.2⟩
section
variable {P:Program} {w:World} {H:Hp} {h:Heap} {a:Addr}
theorem WV {u:HO} (ok:nH P w H h) (e:Rd H a u):dA P w H h a u:=e.ok ok
theorem PF {kvs:List (Key×V)} (ok:nH P w H h) (e:Rd H a (.dK kvs)):kvs.length<=sizeLine/\(a == sysModules)=false /\ ∃ vs,KV kvs vs/\h.DictOf (bB P w) a vs :=
 show dA P w H h a (.dK kvs) from WV ok e
theorem aBl {kvs:List (Key×V)} (ok:nH P w H h) (e:H a=some (.dK kvs)):kvs.length<=sizeLine/\(a == sysModules)=false /\ ∃ vs,KV kvs vs/\h.DictOf (bB P w) a vs:=PF ok (.inl e)
theorem FT {ks:List Key} (ok:nH P w H h) (e:H a=some (.tup (ks.map kV))):(tupleKind (bB P w)).is h ks a:=by
 obtain ⟨_,its,r,⟨o,h1,h2,n,h3⟩,_⟩:=(show dA P w H h a (.tup (ks.map kV)) from ok a _ e)
 exact ⟨o,its.toArray,n,h1,h2,h3,by simpa using yF r⟩
theorem PH {kvs:List (List Key×V)} (ok:nH P w H h) (e:Rd H a (.dT kvs)):kvs.length<=sizeLine/\(a == sysModules)=false /\
  ∃ xs,KT H kvs xs/\h.DictOfH (tupleKind (bB P w)) a xs:=by
 obtain ⟨z,y,xs,r,o,es,ep,h1,h2,h3,h4,h5⟩:=(show dA P w H h a (.dT kvs) from WV ok e)
 refine ⟨z,y,xs,r,o,es,ep,h1,h2,h3,h4,fun x hx=>?_,h5⟩
 have all:∀ {l:List (List Key×V)} {m:List (List Key×Addr×Value)},KT H l m -> ∀ x∈m,(tupleKind (bB P w)).is h x.1 x.2.1:=by
  intro l m q
  induction q with
  | nil=>intro x hx; exact nomatch hx
  | @cons p q ps qs hq t ih =>
   intro x hx
   rcases List.mem_cons.mp hx with e | hx
   ·subst e
    exact FT ok (by rw [<- hq.1]; exact hq.2.1)
   ·exact ih x hx
 exact all r x hx
theorem aBm {kvs:List (List Key×V)} (ok:nH P w H h) (e:H a=some (.dT kvs)):kvs.length<=sizeLine/\(a == sysModules)=false /\
  ∃ xs,KT H kvs xs/\h.DictOfH (tupleKind (bB P w)) a xs:=PH ok (.inl e)
end
noncomputable def CQ (H:Hp) (a:Addr) (y:V) (r:Option V):Prop :=
 (∃ kvs k,Rd H a (.dK kvs)/\y=kV k/\r=fT kvs k) \/ ∃ kvs k b,Rd H a (.dT kvs)/\y=.ref b/\H b=some (.tup (k.map kV))/\r=fT kvs k
noncomputable def FU (H:Hp) (a:Addr) (y v:V) (H':Hp):Prop :=
 (∃ kvs k,H a=some (.dK kvs)/\y=kV k/\kvs.length<sizeLine/\H' = upd H a (.dK (putK kvs k v))) \/
 ∃ kvs k b,H a=some (.dT kvs)/\y=.ref b/\H b=some (.tup (k.map kV))/\kvs.length<sizeLine/\H' = upd H a (.dT (putK kvs k v))
theorem CQ.k {H:Hp} {a:Addr} {kvs:List (Key×V)} {k:Key} (e:H a=some (.dK kvs)):CQ H a (kV k) (fT kvs k):=.inl ⟨kvs,k,.inl e,rfl,rfl⟩
theorem CQ.t {H:Hp} {a b:Addr} {kvs:List (List Key×V)} {k:List Key} (e:H a=some (.dT kvs)) (eb:H b=some (.tup (k.map kV))):CQ H a (.ref b) (fT kvs k):=.inr ⟨kvs,k,b,.inl e,rfl,eb,rfl⟩
theorem FU.k {H:Hp} {a:Addr} {kvs:List (Key×V)} {k:Key} {v:V} (e:H a=some (.dK kvs)) (hl:kvs.length<sizeLine):FU H a (kV k) v (upd H a (.dK (putK kvs k v))):=.inl ⟨kvs,k,e,rfl,hl,rfl⟩
theorem FU.t {H:Hp} {a b:Addr} {kvs:List (List Key×V)} {k:List Key} {v:V} (e:H a=some (.dT kvs)) (eb:H b=some (.tup (k.map kV))) (hl:kvs.length<sizeLine) :
  FU H a (.ref b) v (upd H a (.dT (putK kvs k v))):=.inr ⟨kvs,k,b,e,rfl,eb,hl,rfl⟩
section
variable {X:Cx} {pins:List (Addr×Obj)} {σ:St} {H:Hp} {s:Shared} {a:Addr} {y v:V} {u r:Value} {o:Option V} {A:Around} {E:Value->Shared->Prop}
theorem Inv.big (I:Inv X pins σ H s):sysModules<s.heap.objs.size:=by
 have h:mainGlobals<s.heap.objs.size:=(I.mod.glob.keeps I.bk).lt
 exact Nat.lt_trans (by decide) h
theorem K8 {Q:Value->Shared->Prop} (hu:A.units+1<cLine) (I:Inv X pins σ H s) (g:CQ H a y (some v)) (ry:RelV y u) (h:∀ w' s',Inv X pins σ H s'->RelV v w'->Q w' s') :
  wpAny (model X.prog X.w) A (getItem (.ref a) u) Q E s:=by
 rcases g with ⟨kvs,k,e,ey,l⟩ | ⟨kvs,k,b,e,ey,eb,l⟩
 ·subst ey
  obtain ⟨z,hd,vs,rel,dd⟩:=PF I.hok e
  obtain ⟨w',hw,CA⟩:=nG.some_of (v:=v) (o:=valueAt vs k) (by rw [l]; exact rel.val k)
  exact wpAny_getItem_of (PD ry) dd.mapOf hw (h w' _ (I.tok _) CA)
 ·subst ey
  cases (show u=Value.ref b from ry)
  obtain ⟨z,hd,xs,rel,dd⟩:=PH I.hok e
  obtain ⟨w',hw,CA⟩:=nG.some_of (v:=v) (o:=(atKey xs k).map (·.2)) (by rw [l]; exact rel.val k)
  obtain ⟨p,hp,hp2⟩:=Option.map_eq_some_iff.mp hw
  refine wpAny_getItem_heap (tupleKind_room_in1 hu) (FT I.hok eb) dd hp ?_
  rw [hp2]
  exact h w' _ (I.tok _) CA
theorem JB {h':Heap} {t':Nat} {ob:HO} (I:Inv X pins σ H s) (mu:Mut (H a)) (hs:Heap.SameBut a s.heap h') (he:∃ q,h'.get? a=some q) (new:dA X.prog X.w (upd H a ob) h' a ob) :
  Inv X pins σ (upd H a ob) { s with heap:=h',toks:=t' } :=
 I.write (x:=a) (e:=a) mu (.inl rfl) (fun b q hb z=>(hs.2 b hb).trans z) he new
theorem ZF {P:Program} {w:World} {H':Hp} {h':Heap} {kvs:List (Key×V)} {vs:List (Key×Value)} (z:kvs.length<=sizeLine) (hd:(a == sysModules)=false) (rel:KV kvs vs) (dd:h'.DictOf (bB P w) a vs) :
  dA P w H' h' a (.dK kvs):=⟨z,hd,vs,rel,dd⟩
theorem K9 {H':Hp} {Q:Unit->Shared->Prop} (hu:A.units+1<cLine) (I:Inv X pins σ H s) (g:FU H a y v H') (ry:RelV y u) (rv:RelV v r) (h:∀ s',Inv X pins σ H' s'->Q () s') :
  wpAny (model X.prog X.w) A (setItem (.ref a) u r) Q E s:=by
 rcases g with ⟨kvs,k,e,ey,l,eH⟩ | ⟨kvs,k,b,e,ey,eb,l,eH⟩
 ·subst ey eH
  obtain ⟨z,hd,vs,rel,dd⟩:=aBl I.hok e
  have hz:vs.length<=sizeLine:=by rw [<- rel.length]; exact z
  have hl:(putK kvs k v).length<=sizeLine:=by have:=rS kvs k v; omega
  refine wpAny_setItem_pairs (hsz:=hz) (PD ry) dd fun h' dd' hs=>h _ ?_
  have he:∃ q,h'.get? a=some q:=let ⟨q,_,_,hq,_⟩:=dd'; ⟨q,hq⟩
  exact JB I (by rw [e]; exact True.intro) hs he (ZF hl hd (rel.put k rv) dd')
 ·subst ey eH
  cases (show u=Value.ref b from ry)
  obtain ⟨z,hd,xs,rel,dd⟩:=aBm I.hok e
  have hz:xs.length<=sizeLine:=by rw [<- Paired.length rel]; exact z
  have hl:(putK kvs k v).length<=sizeLine:=by have:=rS kvs k v; omega
  refine wpAny_setItem_heap (hsz:=hz) (tupleKind_room_in1 hu) (FT I.hok eb) dd fun h' dd' hs=>h _ ?_
  obtain ⟨q,es,ep,hq,h2,h3,h4,_,h5⟩:=dd'
  refine JB I (by rw [e]; exact True.intro) hs ⟨q,hq⟩ ⟨hl,hd,_,(rel.put k eb rv).keeps fun c ys ec=>?_,q,es,ep,hq,h2,h3,h4,h5⟩
  rw [aO (aBK ec e (fun z=>nomatch z))]
  exact ec
end
section
variable {X:Cx} {pins:List (Addr×Obj)} {σ:St} {H:Hp} {s:Shared} {a:Addr} {kvs:List (Key×V)} {k:Key} {u:Value} {A:Around} {E:Value->Shared->Prop}
end
noncomputable def UN (i:Expr):Prop:=∀ ov iv,subscripted i false ov iv=operate [ov,iv] (getItem ov iv)
theorem UO {prog:Program} {w:World} {A:Around} {E:Value->Shared->Prop} {s:Shared} {env:Env} {value slice:Expr} {pos:Pos} {T id:String} {Q:Value->Shared->Prop}
  (hl:typeLookup (.type T) "__getitem__" = pure (some (.builtin id))) (hs:UN slice)
  (h:wpAny (model prog w) A (eval value env) (fun o s₁=>wpAny (model prog w) A (eval slice env) (fun i s₂=>s₂.TypeIs o T/\wpAny (model prog w) A (getItem o i) Q E s₂) E s₁) E s) :
  wpAny (model prog w) A (eval (.Subscript value slice pos) env) Q E s:=by
 refine Subscript_ (wpAny_mono h (fun o s₁ h₁=>wpAny_mono h₁ (fun i s₂ h₂=>?_) fun _ _ x=>x) fun _ _ x=>x)
 obtain ⟨hT,h₂⟩:=h₂
 unfold subscriptTail
 refine wpAny_bind ?_
 rw [getitemInPython_of_ne hT.not_modules]
 refine wpAny_bind (wpAny_specialOf hT hl ?_)
 have fin:wpAny (model prog w) A (subscripted slice false o i) (fun r s₃=>wpAny (model prog w) A (letTemporaryGo value o r >>= fun _=>pure r) Q E s₃) E s₂:=by
  rw [hs o i]
  exact wpAny_operating (wpAny_mono h₂ (fun r s₃ h₃=>wpAny_bind (wpAny_letTemporaryGo (wpAny_pure h₃))) fun _ _ x=>x)
 first
  | exact wpAny_pure (wpAny_bind fin)
  | exact wpAny_bind (wpAny_pure (wpAny_bind fin))
  | exact wpAny_bind fin
theorem CS {X:Cx} {pins:List (Addr×Obj)} {σ:St} {H:Hp} {s:Shared} {a:Addr} {y:V} {o:Option V} (I:Inv X pins σ H s) (g:CQ H a y o):s.TypeIs (.ref a) "dict" := by
 rcases g with ⟨kvs,k,e,_,_⟩ | ⟨kvs,k,b,e,_,_,_⟩
 ·obtain ⟨_,_,vs,_,dd⟩:=PF I.hok e
  exact dd.typeIs
 ·obtain ⟨_,_,xs,_,dd⟩:=PH I.hok e
  exact dd.typeIs
noncomputable def aBn (td ty:TE):TE:=fun σ H Q=>td σ H fun x H1=>ty σ H1 fun y H2=>∃ a v,x=.ref a/\CQ H2 a y (some v)/\Q v H2
noncomputable def aBo (td ty tv:TE):TS:=fun D σ H=>tv σ H fun v H1=>td σ H1 fun x H2=>ty σ H2 fun y H3=>∃ a H4,x=.ref a/\FU H3 a y v H4/\D.nx σ H4
section
variable {X:Cx} {o i e value:Expr} {pos pos' tpos:Pos} {td ty tv:TE}
theorem UP (hu:X.A.units+1<cLine) (ho:PE X o td) (hi:PE X i ty) (hs:UN i):PE X (.Subscript o i pos) (aBn td ty):=by
 intro pins s σ H Q I h
 refine UO PySem.F.slot_dict_getitem.lookup hs (eP (ho pins s σ H _ I h) fun u s1 ⟨x,H1,I1,rx,q1⟩=>eP (hi pins s1 σ H1 _ I1 q1) fun iv s2 ⟨y,H2,I2,ry,a,v,ex,g,q2⟩=>?_)
 subst ex
 obtain rfl:u=Value.ref a:=rx
 exact ⟨CS I2 g,K8 hu I2 g ry fun w' s3 I3 CA=>⟨v,H2,I3,CA,q2⟩⟩
theorem UQ (hu:X.A.units+1<cLine) (ho:PE X o td) (hi:PE X i ty) (hv:PE X value tv) (hs:swapsWith value (some (.Subscript o i pos')) pos.line X.env=pure false) :
  PS X (.Assign [.Subscript o i pos'] value pos) (aBo td ty tv):=by
 intro pins s σ H D I h
 refine wpAny_Assign_Subscript (eP (hv pins s σ H _ I h) fun r s1 ⟨v,H1,I1,rv,q1⟩=>eP (ho pins s1 σ H1 _ I1 q1) fun u s2 ⟨x,H2,I2,rx,q2⟩=>eP (hi pins s2 σ H2 _ I2 q2) fun iv s3 ⟨y,H3,I3,ry,a,H4,ex,g,q3⟩=>?_) hs
 subst ex
 obtain rfl:u=Value.ref a:=rx
 exact K9 hu I3 g ry rv fun s4 I4=>⟨σ,H4,I4,q3⟩
end
theorem PJ {P:Program} {w:World} {H:Hp} (h:Heap) (hb:sysModules<h.objs.size):dA P w H (h.push { cls:=.type "dict",data:=.dict #[] }) h.objs.size (.dK []) :=
 ⟨Nat.zero_le _,beq_eq_false_iff_ne.mpr (Ne.symm (Nat.ne_of_lt hb)),[],.nil,Heap.DictOf.new h⟩
noncomputable def ZG:TE:=fun _ H Q=>∀ p,H p=none->Q (.ref p) (upd H p (.dK []))
section
variable {X:Cx} {pos:Pos}
theorem PK:PE X (.Dict [] [] pos) ZG:=fun pins s σ H Q I h =>
 wpAny_Dict_empty ⟨.ref s.heap.objs.size,_,I.laid (a:=s.heap.objs.size) (o:=.dK []) (t':=s.toks) (fun _ _ q=>Heap.get?_push_of_some _ q) (Nat.le_refl _) (PJ s.heap I.big),rfl,h _ (I.hok.fresh (Nat.le_refl _))⟩
end
section
variable {X:Cx} {pins:List (Addr×Obj)} {σ:St} {H:Hp} {s:Shared} {a:Addr} {y d:V} {u r:Value} {o:Option V} {A:Around} {E:Value->Shared->Prop}
end
section
variable {X:Cx} {o e f:Expr} {apos cpos:Pos} {td ty tx:TE}
end
section
variable {X:Cx} {pins:List (Addr×Obj)} {σ:St} {H:Hp} {s:Shared} {a:Addr} {kvs:List (Key×V)} {A:Around} {E:Value->Shared->Prop}
end
section
variable {X:Cx} {pins:List (Addr×Obj)} {σ:St} {H:Hp} {s:Shared} {a:Addr} {y:V} {u:Value} {A:Around} {E:Value->Shared->Prop}
end
end L2
namespace L2
open PySem PySem.Spec PyProof.Rows
section
variable {X:Cx}
end
section
variable {κ:Type} [DecidableEq κ]
end
end L2
end
section
namespace L3
open PySem L2
noncomputable def WW (K:PySem.W.Frag) (H:Hp) (a:Addr) (ns:List Int):Prop:=(∃ o,H a=some (.uP o (.lst (ns.map V.int))))\/fS K (fun _=>none) a (ns.map V.int)
noncomputable def Rw (S:Addr->Prop) (H:Hp) (xs:List (List Int)) (p:Addr):Prop:=∃ as:List Addr,H p=some (.lst (as.map V.ref))/\as.Nodup/\(∀ a∈as,S a)/\as.map H=xs.map fun x=>some (.lst (x.map V.int))
mutual
noncomputable def Dn (K:PySem.W.Frag) (S:Addr->Prop) (H:Hp):D->V->Prop
 | .non,v=>v=.non
 | .bl b,v=>v=.bl b
 | .int i,v=>v=.int i
 | .str x,v=>v=.str x
 | .tup ds,v=>∃ a xs,v=.ref a/\H a=some (.tup xs)/\aR K S H ds xs
 | .lst ds,v=>∃ a xs,v=.ref a/\H a=some (.lst xs)/\S a/\aR K S H ds xs
 | .nW ns,v=>∃ a,v=.ref a/\WW K H a ns
 | .iQ ks ds,v=>∃ a xs,v=.ref a/\H a=some (.dK (ks.zip xs))/\S a/\ks.length=xs.length/\aR K S H ds xs
 | .iH q ks ds,v=>∃ a o kvs,v=.ref a/\H a=some (.dX o kvs)/\S a/\(kvs.map (·.1)=ks/\q a o)/\aR K S H ds (kvs.map (·.2.2))
 | .exc _ a,v=>v=.ref a
 | .rws xs,v=>∃ a,v=.ref a/\S a/\Rw S H xs a
noncomputable def aR (K:PySem.W.Frag) (S:Addr->Prop) (H:Hp):List D->List V->Prop
 | [],xs=>xs=[]
 | d::ds,xs=>∃ v r,xs=v::r/\Dn K S H d v/\aR K S H ds r
end
structure Fits (K:PySem.W.Frag) (S S':Addr->Prop) (H H':Hp):Prop where
 t:∀ a xs,H a=some (.tup xs)->H' a=some (.tup xs)
 s:∀ a ns,WW K H a ns->WW K H' a ns
 l:∀ a xs,H a=some (.lst xs)->S a->H' a=some (.lst xs)/\S' a
 d:∀ a xs,H a=some (.dK xs)->S a->H' a=some (.dK xs)/\S' a
 e:∀ a o xs,H a=some (.dX o xs)->S a->H' a=some (.dX o xs)/\S' a
section
variable {K:PySem.W.Frag} {S S':Addr->Prop} {H H':Hp}
theorem Rw.fits (f:Fits K S S' H H') {xs:List (List Int)} {p:Addr} (hp:∀ ys,H p=some (.lst ys)->H' p=some (.lst ys)) (h:Rw S H xs p):Rw S' H' xs p:=by
 obtain ⟨as,h1,h2,h3,h4⟩:=h
 have hl:as.length=xs.length:=by have:=congrArg List.length h4; simpa using this
 have at1:∀ i (hi:i<as.length),H as[i]=some (.lst ((xs[i]'(hl▸hi)).map V.int)):=fun i hi=>by
  have:=congrArg (fun l=>l[i]?) h4
  simpa [hi,hl▸hi] using this
 refine ⟨as,hp _ h1,h2,fun a ha=>?_,List.ext_getElem (by simpa using hl) fun i hi hi2=>?_⟩
 ·obtain ⟨i,hi,rfl⟩:=List.getElem_of_mem ha
  exact (f.l _ _ (at1 i hi) (h3 _ ha)).2
 ·rw [List.length_map] at hi
  rw [List.getElem_map,List.getElem_map]
  exact (f.l _ _ (at1 i hi) (h3 _ (List.getElem_mem hi))).1
mutual
theorem Dn.fits (f:Fits K S S' H H'):∀ (d:D) (v:V),Dn K S H d v->Dn K S' H' d v
 | .non,v,h=>by simpa only [Dn] using h
 | .bl b,v,h=>by simpa only [Dn] using h
 | .int i,v,h=>by simpa only [Dn] using h
 | .str x,v,h=>by simpa only [Dn] using h
 | .tup ds,v,h=>by
  simp only [Dn] at h ⊢
  obtain ⟨a,xs,e,q,r⟩:=h
  exact ⟨a,xs,e,f.t a xs q,aR.fits f ds xs r⟩
 | .lst ds,v,h=>by
  simp only [Dn] at h ⊢
  obtain ⟨a,xs,e,q,s,r⟩:=h
  obtain ⟨q',s'⟩:=f.l a xs q s
  exact ⟨a,xs,e,q',s',aR.fits f ds xs r⟩
 | .nW ns,v,h=>by
  simp only [Dn] at h ⊢
  obtain ⟨a,e,q⟩:=h
  exact ⟨a,e,f.s a ns q⟩
 | .iQ ks ds,v,h=>by
  simp only [Dn] at h ⊢
  obtain ⟨a,xs,e,q,s,l,r⟩:=h
  obtain ⟨q',s'⟩:=f.d a _ q s
  exact ⟨a,xs,e,q',s',l,aR.fits f ds xs r⟩
 | .iH _ ks ds,v,h=>by
  simp only [Dn] at h ⊢
  obtain ⟨a,o,kvs,e,q,s,l,r⟩:=h
  obtain ⟨q',s'⟩:=f.e a _ _ q s
  exact ⟨a,o,kvs,e,q',s',l,aR.fits f ds _ r⟩
 | .exc _ _,v,h=>by simpa only [Dn] using h
 | .rws xs,v,h=>by
  simp only [Dn] at h ⊢
  obtain ⟨a,e,s,r⟩:=h
  obtain ⟨as,h1,h2⟩:=r
  exact ⟨a,e,(f.l a _ h1 s).2,Rw.fits f (fun ys e1=>(f.l a ys e1 s).1) ⟨as,h1,h2⟩⟩
theorem aR.fits (f:Fits K S S' H H'):∀ (ds:List D) (xs:List V),aR K S H ds xs->aR K S' H' ds xs
 | [],xs,h=>by simpa only [aR] using h
 | d::ds,xs,h=>by
  simp only [aR] at h ⊢
  obtain ⟨v,r,e,h1,h2⟩:=h
  exact ⟨v,r,e,Dn.fits f d v h1,aR.fits f ds r h2⟩
end
mutual
theorem Dn.LA:∀ (d:D) (v:V),d.tJ=true->Dn K S H d v->Dn K S' H d v
 | .non,v,_,h=>by simpa only [Dn] using h
 | .bl b,v,_,h=>by simpa only [Dn] using h
 | .int i,v,_,h=>by simpa only [Dn] using h
 | .str x,v,_,h=>by simpa only [Dn] using h
 | .tup ds,v,hi,h=>by
  simp only [Dn] at h ⊢
  obtain ⟨a,xs,e,q,r⟩:=h
  exact ⟨a,xs,e,q,aR.LA ds xs (by simpa only [D.tJ] using hi) r⟩
 | .lst _,v,hi,h=>by simp only [D.tJ] at hi; cases hi
 | .nW ns,v,_,h=>by simpa only [Dn] using h
 | .iQ _ _,v,hi,h=>by simp only [D.tJ] at hi; cases hi
 | .iH _ _ _,v,hi,h=>by simp only [D.tJ] at hi; cases hi
 | .exc _ _,v,_,h=>by simpa only [Dn] using h
 | .rws _,v,hi,h=>by simp only [D.tJ] at hi; cases hi
theorem aR.LA:∀ (ds:List D) (xs:List V),nX ds=true->aR K S H ds xs->aR K S' H ds xs
 | [],xs,_,h=>by simpa only [aR] using h
 | d::ds,xs,hi,h=>by
  simp only [nX,Bool.and_eq_true] at hi
  simp only [aR] at h ⊢
  obtain ⟨v,r,e,h1,h2⟩:=h
  exact ⟨v,r,e,Dn.LA d v hi.1 h1,aR.LA ds r hi.2 h2⟩
end
theorem Dn.tJ {d:D} (hi:d.tJ=true) {v:V} (h:Dn K S H d v):Dn K S' H d v:=Dn.LA d v hi h
theorem aR.tJ {ds:List D} (hi:nX ds=true) {xs:List V} (h:aR K S H ds xs):aR K S' H ds xs:=aR.LA ds xs hi h
theorem fS.some {a:Addr} {xs:List V} (h:fS K (fun _=>none) a xs):fS K H a xs:=by
 rcases h with (h | ⟨o,h⟩) | h
 ·cases h
 ·cases h
 ·exact .inr h
theorem WW.sq {a:Addr} {ns:List Int} (h:WW K H a ns):fS K H a (ns.map V.int):=by
 rcases h with ⟨o,h⟩ | h
 ·exact .inl (.inr ⟨o,h⟩)
 ·exact fS.some h
noncomputable def Wr (H:Hp) (p:Addr):Prop:=(∃ xs,H p=some (.lst xs))\/(∃ xs,H p=some (.dK xs)) \/ ∃ o xs,H p=some (.dX o xs)
theorem Wr.tup {p a:Addr} {o:HO} {xs:List V} (w:Wr H p) (h:H a=some (.tup xs)):upd H p o a=some (.tup xs):=by
 rw [aO]
 ·exact h
 ·intro e
  subst e
  rcases w with ⟨ys,w⟩ | ⟨ys,w⟩ | ⟨_,ys,w⟩<;>rw [h] at w<;>cases w
theorem Wr.nW {p a:Addr} {o:HO} {ns:List Int} (w:Wr H p) (h:WW K H a ns):WW K (upd H p o) a ns:=by
 rcases h with ⟨ob,h⟩ | h
 ·refine .inl ⟨ob,?_⟩
  rw [aO]
  ·exact h
  ·intro e
   subst e
   rcases w with ⟨ys,w⟩ | ⟨ys,w⟩ | ⟨_,ys,w⟩<;>rw [h] at w<;>cases w
 ·exact .inr h
theorem Fits.same (e:Same H H'):Fits K S S H H' :=
 ⟨fun a xs h=>e _ _ h,fun a ns h=>h.elim (fun ⟨o,h⟩=>.inl ⟨o,e _ _ h⟩) .inr,fun a xs h s=>⟨e _ _ h,s⟩,fun a xs h s=>⟨e _ _ h,s⟩,fun a _ xs h s=>⟨e _ _ h,s⟩⟩
theorem Fits.mono (m:∀ a,S a->S' a):Fits K S S' H H :=
 ⟨fun _ _ h=>h,fun _ _ h=>h,fun a _ h s=>⟨h,m a s⟩,fun a _ h s=>⟨h,m a s⟩,fun a _ _ h s=>⟨h,m a s⟩⟩
theorem Fits.fresh {p:Addr} (hp:H p=none):Fits K S (fun a=>S a/\a≠p) H H :=
 ⟨fun _ _ h=>h,fun _ _ h=>h,fun a _ h s=>⟨h,s,bI h hp⟩,fun a _ h s=>⟨h,s,bI h hp⟩,fun a _ _ h s=>⟨h,s,bI h hp⟩⟩
theorem Fits.upd {p:Addr} {o:HO} (w:Wr H p) (hs:¬ S p):Fits K S S H (upd H p o):=by
 have ne:∀ a,S a->a≠p:=fun a s e=>hs (e▸s)
 exact ⟨fun a xs h=>w.tup h,fun a ns h=>w.nW h,fun a xs h s=>⟨by rw [aO (ne a s)]; exact h,s⟩,fun a xs h s=>⟨by rw [aO (ne a s)]; exact h,s⟩,fun a _ xs h s=>⟨by rw [aO (ne a s)]; exact h,s⟩⟩
theorem Fits.trans {S'':Addr->Prop} {H'':Hp} (a:Fits K S S' H H') (b:Fits K S' S'' H' H''):Fits K S S'' H H'' :=
 ⟨fun x xs h=>b.t x xs (a.t x xs h),fun x ns h=>b.s x ns (a.s x ns h),fun x xs h s=>let ⟨h1,s1⟩:=a.l x xs h s; b.l x xs h1 s1,fun x xs h s=>let ⟨h1,s1⟩:=a.d x xs h s; b.d x xs h1 s1,fun x o xs h s=>let ⟨h1,s1⟩:=a.e x o xs h s; b.e x o xs h1 s1⟩
theorem aK {p:Addr} {o:HO} (hp:H p=none):Same H (upd H p o):=fun b u h=>by rw [aO (bI h hp)]; exact h
theorem aR.len:∀ {ds:List D} {xs:List V},aR K S H ds xs->ds.length=xs.length
 | [],xs,h=>by simp only [aR] at h; subst h; rfl
 | d::ds,xs,h=>by
  simp only [aR] at h
  obtain ⟨v,r,e,_,h2⟩:=h
  subst e
  simp [aR.len h2]
theorem aR.get:∀ {ds:List D} {xs:List V} {i:Nat} {d:D},aR K S H ds xs->ds[i]? = some d -> ∃ v,xs[i]? = some v/\Dn K S H d v
 | [],xs,i,d,h,e=>by simp at e
 | d::ds,xs,i,d',h,e=>by
  simp only [aR] at h
  obtain ⟨v,r,e1,h1,h2⟩:=h
  subst e1
  cases i with
  | zero=>simp at e; subst e; exact ⟨v,by simp,h1⟩
  | succ i =>
   obtain ⟨u,e2,q⟩:=aR.get (i:=i) (d:=d') h2 (by simpa using e)
   exact ⟨u,by simpa using e2,q⟩
theorem aR.nil:aR K S H [] []:=by simp only [aR]
theorem aR.cons {d:D} {ds:List D} {v:V} {xs:List V} (h:Dn K S H d v) (t:aR K S H ds xs):aR K S H (d::ds) (v::xs):=by
 simp only [aR]; exact ⟨v,xs,rfl,h,t⟩
theorem aR.bR {d:D} {ds:List D} {xs:List V} (h:aR K S H (d::ds) xs):∃ v r,xs=v::r/\Dn K S H d v/\aR K S H ds r:=by
 simpa only [aR] using h
theorem aR.append:∀ {ds es:List D} {xs ys:List V},aR K S H ds xs->aR K S H es ys->aR K S H (ds++es) (xs++ys)
 | [],es,xs,ys,h,g=>by simp only [aR] at h; subst h; exact g
 | d::ds,es,xs,ys,h,g=>by
  obtain ⟨v,r,e,h1,h2⟩:=h.bR
  subst e
  exact aR.cons h1 (aR.append h2 g)
theorem aR.one {d:D} {v:V} (h:Dn K S H d v):aR K S H [d] [v]:=aR.cons h aR.nil
theorem aR.take:∀ {ds:List D} {xs:List V} (n:Nat),aR K S H ds xs->aR K S H (ds.take n) (xs.take n)
 | _,_,0,_=>by simp [aR.nil]
 | [],xs,n+1,h=>by simp only [aR] at h; subst h; simp [aR.nil]
 | d::ds,xs,n+1,h=>by
  obtain ⟨v,r,e,h1,h2⟩:=h.bR
  subst e
  simpa using aR.cons h1 (aR.take n h2)
theorem aR.drop:∀ {ds:List D} {xs:List V} (n:Nat),aR K S H ds xs->aR K S H (ds.drop n) (xs.drop n)
 | _,_,0,h=>by simpa using h
 | [],xs,n+1,h=>by simp only [aR] at h; subst h; simp [aR.nil]
 | d::ds,xs,n+1,h=>by
  obtain ⟨v,r,e,h1,h2⟩:=h.bR
  subst e
  simpa using aR.drop n h2
theorem aR.erase:∀ {ds:List D} {xs:List V} (n:Nat),aR K S H ds xs->aR K S H (ds.eraseIdx n) (xs.eraseIdx n)
 | [],xs,n,g=>by simp only [aR] at g; subst g; simp [aR.nil]
 | d::ds,xs,n,g=>by
  obtain ⟨v,r,e,h1,h2⟩:=g.bR
  subst e
  cases n with
  | zero=>exact h2
  | succ n=>exact aR.cons h1 (aR.erase n h2)
theorem aR.insert:∀ {ds:List D} {xs:List V} {d:D} {v:V} (n:Nat),Dn K S H d v->aR K S H ds xs->aR K S H (ds.take n++d::ds.drop n) (xs.take n++v::xs.drop n) :=
 fun n h g=>aR.append (aR.take n g) (aR.cons h (aR.drop n g))
theorem aR.ints:∀ {ns:List Int} {xs:List V},aR K S H (ns.map D.int) xs↔xs=ns.map V.int
 | [],xs=>by simp [aR]
 | n::ns,xs=>by
  rw [List.map_cons,List.map_cons]
  constructor
  ·intro h
   obtain ⟨v,r,e,h1,h2⟩:=h.bR
   simp only [Dn] at h1
   rw [e,h1,aR.ints.mp h2]
  ·intro e
   rw [e]
   exact aR.cons (by simp only [Dn]) (aR.ints.mpr rfl)
theorem lH:∀ ns:List Int,nX (ns.map D.int)=true
 | []=>rfl
 | n::ns=>by rw [List.map_cons,nX,lH ns]; rfl
end
noncomputable def Sl (K:PySem.W.Frag) (S:Addr->Prop) (H:Hp) (ρ:bN) (σ:St):Prop:=∀ (i:Nat) (d:D),ρ[i]? = some (some d) -> ∃ v,σ[i]? = some (some v)/\Dn K S H d v
theorem Sl.fits {K:PySem.W.Frag} {S S':Addr->Prop} {H H':Hp} {ρ:bN} {σ:St} (f:Fits K S S' H H') (h:Sl K S H ρ σ):Sl K S' H' ρ σ:=fun i d e =>
 let ⟨v,e1,q⟩:=h i d e; ⟨v,e1,Dn.fits f d v q⟩
noncomputable def w8 (K:PySem.W.Frag) (S:Addr->Prop) (H:Hp) (d:D) (p:Addr):Prop :=
 match d with
 | .lst ds=>∃ xs,H p=some (.lst xs)/\aR K S H ds xs
 | .iQ ks ds=>∃ xs,H p=some (.dK (ks.zip xs))/\ks.length=xs.length/\aR K S H ds xs
 | .iH q ks ds=>∃ o kvs,H p=some (.dX o kvs)/\(kvs.map (·.1)=ks/\q p o)/\aR K S H ds (kvs.map (·.2.2))
 | .rws xs=>Rw S H xs p
 | _=>False
noncomputable def SO (S:Addr->Prop) (w:Nat->Addr) (ρ:aT):Addr->Prop:=fun a=>S a /\ ∀ (i:Nat) (d:D),ρ[i]? = some (Sv.ow d)->a≠w i
structure ST (K:PySem.W.Frag) (H₀:Hp) (S:Addr->Prop) (w:Nat->Addr) (σ:St) (H:Hp) (ρ:aT) (G:List (D×V)):Prop where
 fc:∀ a,H₀ a=none->S a
 sm:Same H₀ H
 own:∀ (i:Nat) (d:D),ρ[i]? = some (Sv.ow d)->σ[i]? = some (some (.ref (w i)))/\H₀ (w i)=none/\w8 K (SO S w ρ) H d (w i)
 inj:∀ (i j:Nat) (d e:D),ρ[i]? = some (Sv.ow d)->ρ[j]? = some (Sv.ow e)->w i=w j->i=j
 ro:∀ (i:Nat) (d:D),ρ[i]? = some (Sv.ro d) -> ∃ v,σ[i]? = some (some v)/\Dn K (SO S w ρ) H d v
 gh:∀ g∈G,Dn K (SO S w ρ) H g.1 g.2
 rw:∀ (i:Nat) (xs:List (List Int)),ρ[i]? = some (Sv.ow (.rws xs)) -> ∀ ys,H (w i)=some (.lst ys) -> ∀ a,V.ref a∈ys->H₀ a=none
section
variable {K:PySem.W.Frag} {H₀ H H':Hp} {S S':Addr->Prop} {w:Nat->Addr} {σ:St} {ρ:aT} {G:List (D×V)}
theorem w8.wr {d:D} {p:Addr} (h:w8 K S H d p):Wr H p:=by
 cases d with
 | lst ds=>obtain ⟨xs,e,_⟩:=h; exact .inl ⟨_,e⟩
 | iQ ks ds=>obtain ⟨xs,e,_⟩:=h; exact .inr (.inl ⟨_,e⟩)
 | iH q0 ks ds=>obtain ⟨o,kvs,e,_⟩:=h; exact .inr (.inr ⟨_,_,e⟩)
 | rws xs=>obtain ⟨_,e,_⟩:=h; exact .inl ⟨_,e⟩
 | _=>exact False.elim h
theorem w8.dn {d:D} {p:Addr} (h:w8 K S H d p) (hs:S' p) (m:∀ a,S a->S' a):Dn K S' H d (.ref p):=by
 cases d with
 | lst ds=>obtain ⟨xs,e,q⟩:=h; simp only [Dn]; exact ⟨p,xs,rfl,e,hs,aR.fits (.mono m) ds xs q⟩
 | iQ ks ds=>obtain ⟨xs,e,l,q⟩:=h; simp only [Dn]; exact ⟨p,xs,rfl,e,hs,l,aR.fits (.mono m) ds xs q⟩
 | iH q0 ks ds=>obtain ⟨o,kvs,e,l,q⟩:=h; simp only [Dn]; exact ⟨p,o,kvs,rfl,e,hs,l,aR.fits (.mono m) ds _ q⟩
 | rws xs=>simp only [Dn]; exact ⟨p,rfl,hs,Rw.fits (.mono (K:=K) m) (fun _ e=>e) h⟩
 | _=>exact False.elim h
theorem w8.fits {d:D} {p:Addr} (f:Fits K S S' H H') (hp:∀ o,H p=some o->H' p=some o) (h:w8 K S H d p):w8 K S' H' d p:=by
 cases d with
 | lst ds=>obtain ⟨xs,e,q⟩:=h; exact ⟨xs,hp _ e,aR.fits f ds xs q⟩
 | iQ ks ds=>obtain ⟨xs,e,l,q⟩:=h; exact ⟨xs,hp _ e,l,aR.fits f ds xs q⟩
 | iH q0 ks ds=>obtain ⟨o,kvs,e,l,q⟩:=h; exact ⟨o,kvs,hp _ e,l,aR.fits f ds _ q⟩
 | rws xs=>exact Rw.fits f (fun _ e=>hp _ e) h
 | _=>exact False.elim h
theorem ST.rwN (h:ST K H₀ S w σ H ρ G) {i:Nat} {xs:List (List Int)} (q:ρ[i]? = some (Sv.ow (.rws xs))) (hp:∀ o,H (w i)=some o->H' (w i)=some o):∀ ys,H' (w i)=some (.lst ys) -> ∀ a,V.ref a∈ys->H₀ a=none:=fun ys hy=>by
 obtain ⟨as,e,_⟩:=(h.own i _ q).2.2
 rw [hp _ e] at hy
 cases hy
 exact h.rw i xs q _ e
theorem ST.PM (h:ST K H₀ S w σ H ρ G):∀ a,H a=none->S a:=fun a e=>h.fc a (h.sm.free e)
theorem ST.ZH (h:ST K H₀ S w σ H ρ G):∀ a,H a=none->SO S w ρ a:=fun a e=>⟨h.PM a e,fun i d q z=>by
 have wr:=(h.own i d q).2.2.wr
 subst z
 rcases wr with ⟨xs,k⟩ | ⟨xs,k⟩ | ⟨_,xs,k⟩<;>rw [e] at k<;>cases k⟩
theorem w9 {i:Nat} {d:D} (h:(bQ ρ)[i]? = some (some d)):ρ[i]? = some (Sv.ro d)\/ρ[i]? = some (Sv.ow d):=by
 unfold bQ at h
 rw [List.getElem?_map] at h
 cases e:ρ[i]? with
 | none=>rw [e] at h; cases h
 | some s =>
  rw [e] at h
  cases s with
  | no=>cases h
  | ro d'=>cases h; exact .inl rfl
  | ow d'=>cases h; exact .inr rfl
theorem AV {i:Nat} {d:D} (h:(jY ρ)[i]? = some (some d)):ρ[i]? = some (Sv.ro d):=by
 unfold jY at h
 rw [List.getElem?_map] at h
 cases e:ρ[i]? with
 | none=>rw [e] at h; cases h
 | some s =>
  rw [e] at h
  cases s with
  | no=>cases h
  | ro d'=>cases h; rfl
  | ow d'=>cases h
theorem ST.all (h:ST K H₀ S w σ H ρ G):Sl K S H (bQ ρ) σ:=fun i d e=>by
 rcases w9 e with e | e
 ·obtain ⟨v,e1,q⟩:=h.ro i d e
  exact ⟨v,e1,Dn.fits (.mono fun _ z=>z.1) d v q⟩
 ·obtain ⟨e1,e2,q⟩:=h.own i d e
  exact ⟨_,e1,q.dn (h.fc _ e2) fun _ z=>z.1⟩
theorem ST.rd (h:ST K H₀ S w σ H ρ G):Sl K (SO S w ρ) H (jY ρ) σ:=fun i d e=>h.ro i d (AV e)
theorem ST.same (h:ST K H₀ S w σ H ρ G) (e:Same H H'):ST K H₀ S w σ H' ρ G :=
 ⟨h.fc,h.sm.trans e,fun i d q=>let ⟨a,b,c⟩:=h.own i d q; ⟨a,b,c.fits (.same e) fun o z=>e _ o z⟩,h.inj,fun i d q=>let ⟨v,a,b⟩:=h.ro i d q; ⟨v,a,Dn.fits (.same e) d v b⟩,fun g hg=>Dn.fits (.same e) _ _ (h.gh g hg),fun i xs q=>h.rwN q fun o z=>e _ o z⟩
theorem SO.mono {ρ':aT} (hw:∀ (i:Nat) (d:D),ρ'[i]? = some (Sv.ow d) -> ∃ e,ρ[i]? = some (Sv.ow e)):∀ a,SO S w ρ a->SO S w ρ' a:=fun a hq6=>by obtain ⟨s,n⟩:=hq6; exact ⟨s,fun i d e=>let ⟨d',e'⟩:=hw i d e; n i d' e'⟩
theorem get_set {α:Type} {l:List α} {i j:Nat} {x y:α} (h:(l.set i x)[j]? = some y):(j=i/\y=x/\i<l.length)\/(j≠i/\l[j]? = some y):=by
 by_cases e:j=i
 ·subst e
  by_cases hl:j<l.length
  ·rw [List.getElem?_set_self hl] at h
   exact .inl ⟨rfl,(Option.some.inj h).symm,hl⟩
  ·rw [List.getElem?_eq_none (by simp; omega)] at h
   cases h
 ·rw [List.getElem?_set_ne (Ne.symm e)] at h
  exact .inr ⟨e,h⟩
theorem ST.uV {i:Nat} {d:D} {v:V} (h:ST K H₀ S w σ H ρ G) (hi:i<σ.length) (q:Dn K (SO S w ρ) H d v):ST K H₀ S w (σ.set i (some v)) H (ρ.set i (.ro d)) G:=by
 have hw:∀ (j:Nat) (e:D),(ρ.set i (.ro d))[j]? = some (Sv.ow e)->j≠i/\ρ[j]? = some (Sv.ow e):=fun j e he=>by
  rcases get_set he with ⟨_,z,_⟩ | z
  ·cases z
  ·exact z
 have m:∀ a,SO S w ρ a->SO S w (ρ.set i (.ro d)) a:=SO.mono fun j e he=>⟨e,(hw j e he).2⟩
 refine ⟨h.fc,h.sm,fun j e he=>?_,fun j k d' e' h1 h2=>h.inj j k d' e' (hw j d' h1).2 (hw k e' h2).2,fun j e he=>?_,fun g hg=>Dn.fits (.mono m) _ _ (h.gh g hg),fun j xs hx=>h.rw j xs (hw j _ hx).2⟩
 ·obtain ⟨hj,he'⟩:=hw j e he
  obtain ⟨a,b,c⟩:=h.own j e he'
  exact ⟨by rw [List.getElem?_set_ne (Ne.symm hj)]; exact a,b,c.fits (.mono m) fun _ z=>z⟩
 ·rcases get_set he with ⟨hj,z,_⟩ | ⟨hj,z⟩
  ·cases z
   subst hj
   exact ⟨v,List.getElem?_set_self hi,Dn.fits (.mono m) d v q⟩
  ·obtain ⟨u,a,b⟩:=h.ro j e z
   exact ⟨u,by rw [List.getElem?_set_ne (Ne.symm hj)]; exact a,Dn.fits (.mono m) e u b⟩
theorem ST.FV {i:Nat} {d:D} {p:Addr} (h:ST K H₀ S w σ H ρ G) (hi:i<σ.length) (e:Same H H') (hp:H p=none) (q:w8 K (fun a=>SO S w ρ a/\a≠p) H' d p)
  (hr:∀ xs,d=.rws xs -> ∀ ys,H' p=some (.lst ys) -> ∀ a,V.ref a∈ys->H₀ a=none:=by intro _ z; cases z) :
  ST K H₀ S (fun j=>if j=i then p else w j) (σ.set i (some (.ref p))) H' (ρ.set i (.ow d)) G:=by
 have h0:H₀ p=none:=h.sm.free hp
 have hw:∀ (j:Nat) (e:D),j≠i->(ρ.set i (.ow d))[j]? = some (Sv.ow e)->ρ[j]? = some (Sv.ow e):=fun j e hj he=>by
  rcases get_set he with ⟨z,_,_⟩ | ⟨_,z⟩
  ·exact absurd z hj
  ·exact z
 have m:∀ a,(SO S w ρ a/\a≠p)->SO S (fun j=>if j=i then p else w j) (ρ.set i (.ow d)) a:=fun a ⟨⟨s,n⟩,ne⟩=>⟨s,fun j f hf=>by
  show a≠(if j=i then p else w j)
  by_cases hj:j=i
  ·rw [if_pos hj]; exact ne
  ·rw [if_neg hj]; exact n j f (hw j f hj hf)⟩
 have F:Fits K (SO S w ρ) (SO S (fun j=>if j=i then p else w j) (ρ.set i (.ow d))) H H':=((Fits.fresh hp).trans (.mono m)).trans (.same e)
 have wp:∀ (j:Nat) (f:D),ρ[j]? = some (Sv.ow f)->w j≠p:=fun j f hf z=>by
  have wr:=(h.own j f hf).2.2.wr
  rw [z] at wr
  rcases wr with ⟨xs,k⟩ | ⟨xs,k⟩ | ⟨_,xs,k⟩<;>rw [hp] at k<;>cases k
 refine ⟨h.fc,h.sm.trans e,fun j f hf=>?_,fun j k d' e' h1 h2 z=>?_,fun j f hf=>?_,fun g hg=>Dn.fits F _ _ (h.gh g hg),fun j xs hx=>?_⟩
 rotate_right
 ·show ∀ ys,H' (if j=i then p else w j)=some (.lst ys)->_
  by_cases hj:j=i
  ·subst hj
   rw [if_pos rfl]
   rcases get_set hx with ⟨_,z,_⟩ | ⟨z,_⟩
   ·exact hr xs (Sv.ow.inj z).symm
   ·exact absurd rfl z
  ·rw [if_neg hj]
   exact h.rwN (hw j _ hj hx) fun o z=>e _ o z
 ·by_cases hj:j=i
  ·subst hj
   rcases get_set hf with ⟨_,z,_⟩ | ⟨z,_⟩
   ·cases z
    rw [if_pos rfl]
    exact ⟨List.getElem?_set_self hi,h0,q.fits (.mono m) fun _ z=>z⟩
   ·exact absurd rfl z
  ·rw [if_neg hj]
   obtain ⟨a,b,c⟩:=h.own j f (hw j f hj hf)
   exact ⟨by rw [List.getElem?_set_ne (Ne.symm hj)]; exact a,b,c.fits F fun o z=>e _ o z⟩
 ·have z:(if j=i then p else w j)=(if k=i then p else w k):=z
  by_cases hj:j=i
  ·by_cases hk:k=i
   ·rw [hj,hk]
   ·rw [if_pos hj,if_neg hk] at z
    exact absurd z.symm (wp k e' (hw k e' hk h2))
  ·by_cases hk:k=i
   ·rw [if_neg hj,if_pos hk] at z
    exact absurd z (wp j d' (hw j d' hj h1))
   ·rw [if_neg hj,if_neg hk] at z
    exact h.inj j k d' e' (hw j d' hj h1) (hw k e' hk h2) z
 ·rcases get_set hf with ⟨_,z,_⟩ | ⟨hj,z⟩
  ·cases z
  ·obtain ⟨u,a,b⟩:=h.ro j f z
   exact ⟨u,by rw [List.getElem?_set_ne (Ne.symm hj)]; exact a,Dn.fits F f u b⟩
theorem ST.write {i:Nat} {d d':D} {o:HO} (h:ST K H₀ S w σ H ρ G) (e:ρ[i]? = some (Sv.ow d)) (q:w8 K (SO S w ρ) (upd H (w i) o) d' (w i)) (hr:∀ xs,d'≠.rws xs:=by intro _ z; cases z):ST K H₀ S w σ (upd H (w i) o) (ρ.set i (.ow d')) G:=by
 obtain ⟨a0,b0,c0⟩:=h.own i d e
 have so:SO S w (ρ.set i (.ow d'))=SO S w ρ:=by
  funext a
  refine propext ⟨fun ⟨s,n⟩=>⟨s,fun j f hf=>?_⟩,fun ⟨s,n⟩=>⟨s,fun j f hf=>?_⟩⟩
  ·by_cases hj:j=i
   ·subst hj
    exact n j d' (by rw [List.getElem?_set_self (List.getElem?_eq_some_iff.mp e).1])
   ·exact n j f (by rw [List.getElem?_set_ne (Ne.symm hj)]; exact hf)
  ·by_cases hj:j=i
   ·subst hj; exact n j d e
   ·exact n j f (by rw [List.getElem?_set_ne (Ne.symm hj)] at hf; exact hf)
 have nS:¬ SO S w ρ (w i):=fun ⟨_,n⟩=>n i d e rfl
 have F:Fits K (SO S w ρ) (SO S w ρ) H (upd H (w i) o):=.upd c0.wr nS
 refine ⟨h.fc,fun b u hb=>?_,fun j f hf=>?_,fun j k d1 e1 h1 h2 z=>?_,fun j f hf=>?_,fun g hg=>by rw [so]; exact Dn.fits F _ _ (h.gh g hg),fun j xs hx=>?_⟩
 rotate_right
 ·rcases get_set hx with ⟨_,z,_⟩ | ⟨hj,z⟩
  ·exact absurd (Sv.ow.inj z).symm (hr xs)
  ·exact h.rwN z fun ob hob=>by rw [aO fun y=>hj (h.inj _ _ _ _ z e y)]; exact hob
 ·rw [aO (bI hb b0)]
  exact h.sm b u hb
 ·rw [so]
  rcases get_set hf with ⟨hj,z,_⟩ | ⟨hj,z⟩
  ·cases z
   subst hj
   exact ⟨a0,b0,q⟩
  ·obtain ⟨a,b,c⟩:=h.own j f z
   exact ⟨a,b,c.fits F fun ob hob=>by rw [aO fun y=>hj (h.inj _ _ _ _ z e y)]; exact hob⟩
 ·have g1:∃ d2,ρ[j]? = some (Sv.ow d2):=by
   rcases get_set h1 with ⟨hj,_,_⟩ | ⟨_,z⟩
   ·subst hj; exact ⟨d,e⟩
   ·exact ⟨_,z⟩
  have g2:∃ d2,ρ[k]? = some (Sv.ow d2):=by
   rcases get_set h2 with ⟨hj,_,_⟩ | ⟨_,z⟩
   ·subst hj; exact ⟨d,e⟩
   ·exact ⟨_,z⟩
  obtain ⟨_,g1⟩:=g1
  obtain ⟨_,g2⟩:=g2
  exact h.inj j k _ _ g1 g2 z
 ·rw [so]
  rcases get_set hf with ⟨_,z,_⟩ | ⟨hj,z⟩
  ·cases z
  ·obtain ⟨u,a,b⟩:=h.ro j f z
   exact ⟨u,a,Dn.fits F f u b⟩
theorem ST.ghost (h:ST K H₀ S w σ H ρ G) {G':List (D×V)} (hg:∀ g∈G',Dn K (SO S w ρ) H g.1 g.2):ST K H₀ S w σ H ρ G':=⟨h.fc,h.sm,h.own,h.inj,h.ro,hg,h.rw⟩
end
end L3
end
section
namespace L3
open PySem PySem.Spec PyProof.Rows L2
noncomputable abbrev WE:=bN->(D->Prop)->Prop
noncomputable abbrev WT:=bN->(Bool->Prop)->Prop
noncomputable abbrev WA:=bN->(List D->Prop)->Prop
noncomputable def lift (K:PySem.W.Frag) (t:WE):TE:=fun σ H Q=>∃ (S:Addr->Prop) (ρ:bN) (Q3:D->Prop),(∀ a,H a=none->S a)/\Sl K S H ρ σ/\t ρ Q3 /\ ∀ v H' d,Same H H'->Dn K S H' d v->Q3 d->Q v H'
noncomputable def liftT (K:PySem.W.Frag) (t:WT):TT:=fun σ H Q=>∃ (S:Addr->Prop) (ρ:bN) (Q3:Bool->Prop),(∀ a,H a=none->S a)/\Sl K S H ρ σ/\t ρ Q3 /\ ∀ b H',Same H H'->Q3 b->Q b H'
noncomputable def PN (K:PySem.W.Frag) (t:WA):TA:=fun σ H Q=>∃ (S:Addr->Prop) (ρ:bN) (Q3:List D->Prop),(∀ a,H a=none->S a)/\Sl K S H ρ σ/\t ρ Q3 /\ ∀ vs H' ds,Same H H'->aR K S H' ds vs->Q3 ds->Q vs H'
noncomputable def PQ (K:PySem.W.Frag) (t:WE):TE:=fun σ H Q=>∃ (S:Addr->Prop) (ρ:bN) (Q3:D->Prop),(∀ a,H a=none->S a)/\Sl K S H ρ σ/\t ρ Q3 /\
 ∀ p xs H' ds,H p=none->H' p=some (.lst xs)->Same H H'->aR K (fun a=>S a/\a≠p) H' ds xs->Q3 (.lst ds)->Q (.ref p) H'
noncomputable def cD (X:Cx) (e:Expr) (t:WE):Prop:=PE X e (lift X.K t)
noncomputable def ED (X:Cx) (e:Expr) (t:WE):Prop:=PE X e (PQ X.K t)
noncomputable def wN (X:Cx) (e:Expr) (t:WT):Prop:=PT X e (liftT X.K t)
noncomputable def BQ (X:Cx) (es:List Expr) (t:WA):Prop:=PA X es (PN X.K t)
section
variable {X:Cx}
theorem imp {e:Expr} {t t':TE} (h:PE X e t) (f:∀ σ H Q,t' σ H Q->t σ H Q):PE X e t':=fun pins s σ H Q I q=>h pins s σ H Q I (f σ H Q q)
theorem UR {e:Expr} {t t':TT} (h:PT X e t) (f:∀ σ H Q,t' σ H Q->t σ H Q):PT X e t':=fun pins s σ H Q I q=>h pins s σ H Q I (f σ H Q q)
theorem ZI {e:List Expr} {t t':TA} (h:PA X e t) (f:∀ σ H Q,t' σ H Q->t σ H Q):PA X e t':=fun pos pins s σ H Q I q=>h pos pins s σ H Q I (f σ H Q q)
theorem aW {H H':Hp} {S:Addr->Prop} (fc:∀ a,H a=none->S a) (s:Same H H'):∀ a,H' a=none->S a:=fun a e=>fc a (s.free e)
theorem ED.pe {e:Expr} {t:WE} (h:ED X e t):cD X e t:=imp h fun σ H Q hq7=>by
 obtain ⟨S,ρ,Q3,fc,sl,ht,k⟩:=hq7
 exact ⟨S,ρ,Q3,fc,sl,ht,fun p xs H' ds hp hp' s dn q=>k _ H' _ s (by simp only [Dn]; exact ⟨p,xs,rfl,hp',fc p hp,aR.fits (.mono fun _ z=>z.1) ds xs dn⟩) q⟩
noncomputable def US (i:Nat):WE:=fun ρ Q=>match ρ[i]? with
 | some (some d)=>Q d
 | _=>False
noncomputable def wC (d:D):WE:=fun _ Q=>Q d
theorem PU {K:PySem.W.Frag} {i:Nat} {σ:L2.St} {H:Hp} {Q:VK} (h:lift K (US i) σ H Q):TV i σ H Q:=by
 obtain ⟨S,ρ,Q3,fc,sl,ht,k⟩:=h
 unfold US at ht
 split at ht
 ·rename_i d e
  obtain ⟨v,e1,q⟩:=sl i d e
  exact ⟨v,e1,k v H d (Same.refl H) q ht⟩
 ·exact ht.elim
theorem x3 (i:Nat) {x:Str} {pos:Pos} (hN:X.N[i]? = some x:=by rfl) (hv:FE X.env.scope x:=by first | exact Or.inl rfl | exact Or.inr (Or.inl rfl) | exact Or.inr (Or.inr rfl)) (hd:(x == ("__debug__" : Str))=false:=by decide)
  (hcd:(x == ("__classdict__" : Str))=false:=by decide):cD X (.Name x pos) (US i):=imp (AG hN hv hd hcd) fun _ _ _=>PU
theorem uW {K:PySem.W.Frag} {d:D} {v:V} {σ:L2.St} {H:Hp} {Q:VK} (hd:∀ S H,Dn K S H d v) (h:lift K (wC d) σ H Q):tC v σ H Q:=by
 obtain ⟨S,ρ,Q3,fc,sl,ht,k⟩:=h
 exact k v H d (Same.refl H) (hd S H) ht
theorem i3 {i:Int} {j pos}:cD X (.Constant (.int i) j pos) (wC (.int i)):=imp YF fun _ _ _=>uW (fun _ _=>by simp only [Dn])
theorem b3 {b:Bool} {j pos}:cD X (.Constant (.bool b) j pos) (wC (.bl b)):=imp aBP fun _ _ _=>uW (fun _ _=>by simp only [Dn])
theorem n3 {j pos}:cD X (.Constant .none j pos) (wC .non):=imp YG fun _ _ _=>uW (fun _ _=>by simp only [Dn])
theorem s3 {x:Str} {j pos}:cD X (.Constant (.str x) j pos) (wC (.str x)):=imp YH fun _ _ _=>uW (fun _ _=>by simp only [Dn])
noncomputable abbrev F2:=D->D->(D->Prop)->Prop
noncomputable def gE (f:F2) (ta tb:WE):WE:=fun ρ Q=>ta ρ fun x=>tb ρ fun y=>f x y Q
noncomputable def O3 (K:PySem.W.Frag) (r:R2) (f:F2):Prop:=∀ (S:Addr->Prop) (H:Hp) (x y:V) (dx dy:D) (Q3:D->Prop) (Q:VK),(∀ a,H a=none->S a)->Dn K S H dx x->Dn K S H dy y->f dx dy Q3 ->
 (∀ v H' d,Same H H'->Dn K S H' d v->Q3 d->Q v H')->r x y H Q
theorem kT {K:PySem.W.Frag} {r:R2} {f:F2} {ta tb:WE} {σ:L2.St} {H:Hp} {Q:VK} (h3:O3 K r f) (h:lift K (gE f ta tb) σ H Q):tOp r (lift K ta) (lift K tb) σ H Q:=by
 obtain ⟨S,ρ,Q3,fc,sl,ht,k⟩:=h
 refine ⟨S,ρ,_,fc,sl,ht,fun v H1 d s1 d1 q1=>?_⟩
 refine ⟨S,ρ,_,aW fc s1,Sl.fits (.same s1) sl,q1,fun u H2 d2 s2 d2' q2=>?_⟩
 exact h3 S H2 v u d d2 Q3 Q (aW fc (s1.trans s2)) (Dn.fits (.same s2) _ _ d1) d2' q2 fun v' H' d' s' dn' q'=>k v' H' d' ((s1.trans s2).trans s') dn' q'
theorem ZJ {a b:Expr} {op:Operator} {pos:Pos} {r:R2} {f:F2} {ta tb:WE} (ho:iT X (binaryOp op) r) (h3:O3 X.K r f) (ha:cD X a ta) (hb:cD X b tb):cD X (.BinOp a op b pos) (gE f ta tb) :=
 imp (IS ho ha hb) fun _ _ _=>kT h3
noncomputable def LB (C:Int->Int->Prop) (g:Int->Int->D):F2
 | .int i,.int j,Q=>C i j/\Q (g i j)
 | _,_,_=>False
theorem AW {K:PySem.W.Frag} {C:Int->Int->Prop} {g:Int->Int->Int}:O3 K (rI C fun i j=>.int (g i j)) (LB C fun i j=>.int (g i j)):=by
 intro S H x y dx dy Q3 Q fc hx hy hf k
 cases dx<;>cases dy<;>try exact hf.elim
 simp only [Dn] at hx hy
 exact ⟨_,_,hx,hy,hf.1,k _ H _ (Same.refl H) (by simp only [Dn]) hf.2⟩
noncomputable def uX (g:Int->Int->D):F2
 | .int i,.int j,Q=>Q (g i j)
 | _,_,_=>False
theorem UT {K:PySem.W.Frag} {g:Int->Int->Int}:O3 K (KY fun i j=>.int (g i j)) (uX fun i j=>.int (g i j)):=by
 intro S H x y dx dy Q3 Q fc hx hy hf k
 cases dx<;>cases dy<;>try exact hf.elim
 simp only [Dn] at hx hy
 exact ⟨_,_,hx,hy,k _ H _ (Same.refl H) (by simp only [Dn]) hf⟩
noncomputable def aFS:F2:=uX fun i j=>.int (i - j)
noncomputable def aFT:F2:=LB (fun _ j=>0<j) fun i j=>.int (i % j)
noncomputable def aFU:F2:=LB aB3 fun i j=>.int (i / j)
noncomputable def aFV:F2:=LB aB4 fun i j=>.int (i ^ j.toNat)
section
variable {a b:Expr} {pos:Pos} {ta tb:WE}
theorem aFW (ha:cD X a ta) (hb:cD X b tb):cD X (.BinOp a .Sub b pos) (gE aFS ta tb):=ZJ YU UT ha hb
theorem aFX (ha:cD X a ta) (hb:cD X b tb):cD X (.BinOp a .Mod b pos) (gE aFT ta tb):=ZJ YV AW ha hb
theorem aFY (ha:cD X a ta) (hb:cD X b tb):cD X (.BinOp a .FloorDiv b pos) (gE aFU ta tb):=ZJ T7 AW ha hb
theorem aFZ (ha:cD X a ta) (hb:cD X b tb):cD X (.BinOp a .Pow b pos) (gE aFV ta tb):=ZJ YW AW ha hb
end
noncomputable def WY (K:PySem.W.Frag):R2:=fun x y H Q=>∃ a b xs ys,x=.ref a/\y=.ref b/\fU K H a xs/\fU K H b ys/\xs.length+ys.length<=sizeLine /\
 (xs=[]->Q (.ref b) H)/\(xs≠[]->ys=[]->Q (.ref a) H)/\(xs≠[]->ys≠[] -> ∀ p,H p=none->Q (.ref p) (upd H p (.tup (xs++ys))))
theorem PV {prog:Program} {w:World} {A:Around} {E:Value->Shared->Prop} {s:Shared} {t b:Addr} {ws:List Value} {Q:Value->Shared->Prop} (ht:IsTup s.heap t #[]) (hb:IsTup s.heap b ws.toArray)
  (h1:Q (.ref b) s):wpAny (model prog w) A (binaryOp .Add (.ref t) (.ref b)) Q E s:=by
 obtain ⟨⟨cls,dd,data,sl⟩,ho,hc,n,hd⟩:=id ht
 obtain ⟨⟨cls2,dd2,data2,sl2⟩,ho2,hc2,n2,hd2⟩:=id hb
 simp only at hc hd hc2 hd2
 subst hc hd hc2 hd2
 exact concat_meets ⟨_,ho,rfl⟩ ⟨_,ho2,rfl⟩ noFill_tuple_add seq_tuple_add PySem.F.slot_tuple_add PySem.F.entry_tuple_add (PySem.F.args_tuple_add_2 _ _)
   (tuple_addW0 t b #[] ws.toArray n n2 dd dd2 sl sl2 (by simp)) ⟨ho,ho2,h1⟩
theorem PX:iT X (binaryOp .Add) (WY X.K):=by
 intro pins s σ H x y v u Q I rx ry h
 obtain ⟨a,b,xs,ys,rfl,rfl,ha,hb,hz,q0,q1,q2⟩:=h
 by_cases hx:xs=[]
 ·cases rx
  cases ry
  subst hx
  obtain ⟨its,r1,p1,_⟩:=I.tuple ha
  obtain ⟨its2,r2,p2,_⟩:=I.tuple hb
  cases r1
  exact PV p1 p2 ⟨.ref b,H,I,rfl,q0 rfl⟩
 ·exact UH pins s σ H _ _ v u Q I rx ry ⟨a,b,xs,ys,rfl,rfl,ha,hb,hx,hz,q1 hx,q2 hx⟩
noncomputable def ZK:F2
 | .int i,.int j,Q=>Q (.int (i+j))
 | .lst a,.lst b,Q=>a.length+b.length<=sizeLine/\Q (.lst (a++b))
 | .tup a,.tup b,Q=>a.length+b.length<=sizeLine/\Q (.tup (a++b))
 | .str a,.str b,Q=>a.length+b.length<=sizeLine/\Q (.str (a++b))
 | _,_,_=>False
noncomputable def aBp (K:PySem.W.Frag):R2:=fun x y H Q=>(KY fun i j=>.int (i+j)) x y H Q\/(aBi x y H Q\/(WY K x y H Q \/ ∃ i j,x=.str i/\y=.str j/\i.length+j.length<=sizeLine/\Q (.str (i++j)) H))
theorem ZL {K:PySem.W.Frag}:O3 K (aBp K) ZK:=by
 intro S H x y dx dy Q3 Q fc hx hy hf k
 cases dx with
 | int i =>
  cases dy with
  | int j=>simp only [Dn] at hx hy; exact .inl ⟨_,_,hx,hy,k _ H _ (Same.refl H) (by simp only [Dn]) hf⟩
  | _=>exact hf.elim
 | str i =>
  cases dy with
  | str j=>simp only [Dn] at hx hy; exact .inr (.inr (.inr ⟨_,_,hx,hy,hf.1,k _ H _ (Same.refl H) (by simp only [Dn]) hf.2⟩))
  | _=>exact hf.elim
 | lst ds =>
  cases dy with
  | lst es =>
   simp only [Dn] at hx hy
   obtain ⟨a,xs,rfl,ha,sa,da⟩:=hx
   obtain ⟨b,ys,rfl,hb,sb,db⟩:=hy
   refine .inr (.inl ⟨a,b,xs,ys,rfl,rfl,ha,hb,by rw [<- da.len,<- db.len]; exact hf.1,fun p hp=>k _ _ _ (aK hp) ?_ hf.2⟩)
   simp only [Dn]
   exact ⟨p,_,rfl,aS,fc p hp,aR.fits (.same (aK hp)) _ _ (da.append db)⟩
  | _=>exact hf.elim
 | tup ds =>
  cases dy with
  | tup es =>
   simp only [Dn] at hx hy
   obtain ⟨a,xs,rfl,ha,da⟩:=hx
   obtain ⟨b,ys,rfl,hb,db⟩:=hy
   refine .inr (.inr (.inl ⟨a,b,xs,ys,rfl,rfl,fU.of ha,fU.of hb,by rw [<- da.len,<- db.len]; exact hf.1,fun e=>?_,fun _ e=>?_,fun _ _ p hp=>?_⟩))
   ·subst e
    have e2:ds=[]:=List.length_eq_zero_iff.mp da.len
    subst e2
    exact k _ H _ (Same.refl H) (by simp only [Dn]; exact ⟨b,ys,rfl,hb,db⟩) hf.2
   ·subst e
    have e2:es=[]:=List.length_eq_zero_iff.mp db.len
    subst e2
    have q:=hf.2
    rw [List.append_nil] at q
    exact k _ H _ (Same.refl H) (by simp only [Dn]; exact ⟨a,xs,rfl,ha,da⟩) q
   ·refine k _ _ _ (aK hp) ?_ hf.2
    simp only [Dn]
    exact ⟨p,_,rfl,aS,aR.fits (.same (aK hp)) _ _ (da.append db)⟩
  | _=>exact hf.elim
 | _=>cases dy<;>exact hf.elim
theorem UU:iT X (binaryOp .Add) (aBp X.K):=iT.or YT (iT.or O6 (iT.or PX uS))
theorem aF0 {a b:Expr} {pos:Pos} {ta tb:WE} (ha:cD X a ta) (hb:cD X b tb):cD X (.BinOp a .Add b pos) (gE ZK ta tb):=ZJ UU ZL ha hb
noncomputable def aBq:F2
 | .lst a,.lst b,Q=>a.length+b.length<=sizeLine/\Q (.lst (a++b))
 | _,_,_=>False
theorem aBr {a b:Expr} {pos:Pos} {ta tb:WE} (ha:cD X a ta) (hb:cD X b tb):ED X (.BinOp a .Add b pos) (gE aBq ta tb):=imp (IS O6 ha hb) fun σ H Q h=>by
 obtain ⟨S,ρ,Q3,fc,sl,ht,k⟩:=h
 refine ⟨S,ρ,_,fc,sl,ht,fun v H1 d s1 d1 q1=>?_⟩
 refine ⟨S,ρ,_,aW fc s1,Sl.fits (.same s1) sl,q1,fun u H2 d2 s2 d2' q2=>?_⟩
 cases d<;>cases d2<;>try exact q2.elim
 simp only [Dn] at d1 d2'
 obtain ⟨a,xs,rfl,ha,sa,da⟩:=d1
 obtain ⟨b,ys,rfl,hb,sb,db⟩:=d2'
 have da':=aR.fits (.same s2) _ _ da
 refine ⟨a,b,xs,ys,rfl,rfl,s2 _ _ ha,hb,by rw [<- da.len,<- db.len]; exact q2.1,fun p hp=>k p _ _ _ ((s1.trans s2).free hp) aS ((s1.trans s2).trans (aK hp)) ?_ q2.2⟩
 exact aR.fits ((Fits.fresh hp).trans (.same (aK hp))) _ _ (da'.append db)
noncomputable def aF2:WA:=fun _ Q=>Q []
noncomputable def aBs (ta:WE) (t:WA):WA:=fun ρ Q=>ta ρ fun d=>t ρ fun ds=>Q (d::ds)
theorem aF3:BQ X [] aF2:=ZI kP fun σ H Q hq8=>by obtain ⟨S,ρ,Q3,fc,sl,ht,k⟩:=hq8; exact k [] H [] (Same.refl H) aR.nil ht
theorem aBt {e:Expr} {es:List Expr} {te:WE} {t:WA} (ha:cD X e te) (hr:BQ X es t) (hs:starEach (e::es) X.env=(false,eval e X.env)::starEach es X.env:=by rfl):BQ X (e::es) (aBs te t) :=
 ZI (gO ha hr hs) fun σ H Q hq9=>by
  obtain ⟨S,ρ,Q3,fc,sl,ht,k⟩:=hq9
  refine ⟨S,ρ,_,fc,sl,ht,fun v H1 d s1 d1 q1=>?_⟩
  refine ⟨S,ρ,_,aW fc s1,Sl.fits (.same s1) sl,q1,fun us H2 ds s2 d2 q2=>?_⟩
  exact k _ H2 _ (s1.trans s2) (aR.cons (Dn.fits (.same s2) _ _ d1) d2) q2
noncomputable def aF4 (t:WA):WE:=fun ρ Q=>t ρ fun ds=>ds.length<=sizeLine/\Q (.tup ds)
noncomputable def aF5 (t:WA):WE:=fun ρ Q=>t ρ fun ds=>ds.length<=sizeLine/\Q (.lst ds)
theorem aF6 {es:List Expr} {t:WA} {x1} {pos:Pos} (h:BQ X es t):cD X (.Tuple es x1 pos) (aF4 t):=imp (Y2 h) fun σ H Q aF7=>by
 obtain ⟨S,ρ,Q3,fc,sl,ht,k⟩:=aF7
 refine ⟨S,ρ,_,fc,sl,ht,fun vs H1 ds s1 d1 q1=>⟨by rw [<- d1.len]; exact q1.1,fun p hp=>k _ _ _ (s1.trans (aK hp)) ?_ q1.2⟩⟩
 simp only [Dn]
 exact ⟨p,_,rfl,aS,aR.fits (.same (aK hp)) _ _ d1⟩
theorem aF8 {es:List Expr} {t:WA} {pos:Pos} (h:BQ X es t):ED X (.List es pos) (aF5 t):=imp (Y3 h) fun σ H Q aF9=>by
 obtain ⟨S,ρ,Q3,fc,sl,ht,k⟩:=aF9
 refine ⟨S,ρ,_,fc,sl,ht,fun vs H1 ds s1 d1 q1=>⟨by rw [<- d1.len]; exact q1.1,fun p hp=>k p vs _ ds (s1.free hp) aS (s1.trans (aK hp)) ?_ q1.2⟩⟩
 exact aR.fits ((Fits.fresh hp).trans (.same (aK hp))) _ _ d1
end
section
variable {X:Cx}
noncomputable def kU (t:WE):WT:=fun ρ Q=>t ρ fun d=>match d with
 | .bl b=>Q b
 | _=>False
theorem LC {K:PySem.W.Frag} {t:WE} {σ:L2.St} {H:Hp} {Q:Bool->Hp->Prop} (h:liftT K (kU t) σ H Q):IU (lift K t) σ H Q:=by
 obtain ⟨S,ρ,Q3,fc,sl,ht,k⟩:=h
 refine ⟨S,ρ,_,fc,sl,ht,fun v H1 d s1 d1 q1=>?_⟩
 cases d with
 | bl b=>simp only [Dn] at d1; exact ⟨b,d1,k b H1 s1 q1⟩
 | _=>exact q1.elim
theorem FW {t t':TE} {σ:L2.St} {H:Hp} {Q:Bool->Hp->Prop} (f:∀ σ H Q,t' σ H Q->t σ H Q) (h:IU t' σ H Q):IU t σ H Q:=f σ H _ h
theorem UW {a b:Expr} {op:CmpOp} {pos:Pos} {r:R2} {f:F2} {ta tb:WE} (ho:iT X (compareOp op) r) (h3:O3 X.K r f) (ha:cD X a ta) (hb:cD X b tb) (hm:behindInMarks op b=false):cD X (.Compare a [op] [b] pos) (gE f ta tb) :=
 imp (T8 ho ha hb hm) fun _ _ _=>kT h3
theorem rT {a b:Expr} {op:CmpOp} {pos:Pos} {r:R2} {f:F2} {ta tb:WE} (ho:iT X (compareOp op) r) (h3:O3 X.K r f) (ha:cD X a ta) (hb:cD X b tb) (hm:behindInMarks op b=false):wN X (.Compare a [op] [b] pos) (kU (gE f ta tb)) :=
 UR (T9 ho ha hb hm) fun _ _ _ h=>FW (fun _ _ _=>kT h3) (LC h)
theorem uY {K:PySem.W.Frag} {g:Int->Int->Bool}:O3 K (KY fun i j=>.bl (g i j)) (uX fun i j=>.bl (g i j)):=by
 intro S H x y dx dy Q3 Q fc hx hy hf k
 cases dx<;>cases dy<;>try exact hf.elim
 simp only [Dn] at hx hy
 exact ⟨_,_,hx,hy,k _ H _ (Same.refl H) (by simp only [Dn]) hf⟩
noncomputable def PY:D->D->Bool
 | .non,.non=>true | .non,.int _=>true | .int _,.non=>true | .non,.bl _=>true | .bl _,.non=>true | .non,.str _=>true | .str _,.non=>true
 | .int _,.int _=>true | .bl _,.bl _=>true | .str _,.str _=>true | .int _,.str _=>true | .str _,.int _=>true | .bl _,.str _=>true | .str _,.bl _=>true
 | _,_=>false
noncomputable def eqS:D->D->Bool
 | .non,.non=>true
 | .int i,.int j=>decide (i=j)
 | .bl i,.bl j=>decide (i=j)
 | .str i,.str j=>decide (i=j)
 | _,_=>false
noncomputable def UX:F2:=fun x y Q=>PY x y=true/\Q (.bl (eqS x y))
noncomputable def ZM:F2:=fun x y Q=>PY x y=true/\Q (.bl (!eqS x y))
theorem JC {K:PySem.W.Frag} {S:Addr->Prop} {H:Hp} {x y:V} {dx dy:D} (hx:Dn K S H dx x) (hy:Dn K S H dy y) (h:PY dx dy=true):YY x y=true/\decide (x=y)=eqS dx dy:=by
 cases dx<;>first
  | (exact absurd (show false=true from h) Bool.false_ne_true)
  | skip
 all_goals (cases dy<;>first
  | (exact absurd (show false=true from h) Bool.false_ne_true)
  | (simp only [Dn] at hx hy; subst hx; subst hy; exact ⟨rfl,by first | exact AI | exact FJ | exact AJ | exact decide_eq_false (fun h=>by cases h) | exact decide_eq_true rfl⟩))
theorem PZ {K:PySem.W.Frag}:O3 K rEq UX:=by
 intro S H x y dx dy Q3 Q fc hx hy hf k
 obtain ⟨h1,h2⟩:=JC hx hy hf.1
 exact ⟨h1,k _ H _ (Same.refl H) (by simp only [Dn]; rw [h2]) hf.2⟩
theorem ZN {K:PySem.W.Frag}:O3 K rNe ZM:=by
 intro S H x y dx dy Q3 Q fc hx hy hf k
 obtain ⟨h1,h2⟩:=JC hx hy hf.1
 exact ⟨h1,k _ H _ (Same.refl H) (by simp only [Dn]; rw [h2]) hf.2⟩
noncomputable def allI:List D->Bool
 | []=>true
 | .int _::r=>allI r
 | _::_=>false
noncomputable def xA (i:Int):List D->Bool
 | []=>false
 | .int j::r=>j == i||xA i r
 | _::r=>xA i r
theorem yG:∀ ns:List Int,allI (ns.map D.int)=true
 | []=>rfl
 | n::ns=>by rw [List.map_cons]; exact yG ns
theorem yH (i:Int):∀ ns:List Int,xA i (ns.map D.int)=ns.contains i
 | []=>rfl
 | n::ns=>by
  rw [List.map_cons,xA,yH i ns,List.contains_cons]
  congr 1
  exact Bool.beq_comm
theorem AX:∀ {ds:List D},allI ds=true -> ∃ ns:List Int,ds=ns.map D.int
 | [],_=>⟨[],rfl⟩
 | .int n::r,h=>by
  obtain ⟨ns,e⟩:=AX (ds:=r) h
  exact ⟨n::ns,by rw [e]; rfl⟩
 | .non::r,h=>absurd (show false=true from h) Bool.false_ne_true
 | .bl _::r,h=>absurd (show false=true from h) Bool.false_ne_true
 | .str _::r,h=>absurd (show false=true from h) Bool.false_ne_true
 | .tup _::r,h=>absurd (show false=true from h) Bool.false_ne_true
 | .lst _::r,h=>absurd (show false=true from h) Bool.false_ne_true
 | .nW _::r,h=>absurd (show false=true from h) Bool.false_ne_true
 | .iQ _ _::r,h=>absurd (show false=true from h) Bool.false_ne_true
 | .iH _ _ _::r,h=>absurd (show false=true from h) Bool.false_ne_true
noncomputable def inF (neg:Bool):F2
 | .int i,.tup ds,Q=>allI ds=true/\Q (.bl (if neg then !xA i ds else xA i ds))
 | .int i,.lst ds,Q=>allI ds=true/\Q (.bl (if neg then !xA i ds else xA i ds))
 | _,_,_=>False
theorem uZ (i:Int):∀ ns:List Int,inV (.int i) (ns.map V.int)=xA i (ns.map D.int)
 | []=>rfl
 | n::ns=>by
  have e:=uZ i ns
  unfold inV at e ⊢
  rw [List.map_cons,List.map_cons,List.any_cons,xA,e]
  rfl
theorem qL:∀ ns:List Int,(ns.map V.int).all oR=true
 | []=>rfl
 | n::ns=>by rw [List.map_cons,List.all_cons,qL ns]; rfl
theorem P0 {K:PySem.W.Frag} {neg:Bool}:O3 K (rIn K neg) (inF neg):=by
 intro S H x y dx dy Q3 Q fc hx hy hf k
 cases dx with
 | int i =>
  simp only [Dn] at hx
  subst hx
  cases dy with
  | tup ds =>
   simp only [Dn] at hy
   obtain ⟨a,xs,rfl,ha,da⟩:=hy
   obtain ⟨h1,h2⟩:=hf
   obtain ⟨ns,rfl⟩:=AX h1
   have e:=aR.ints.mp da
   subst e
   refine ⟨a,_,rfl,.inr (fU.of ha),rfl,qL ns,k _ H _ (Same.refl H) ?_ h2⟩
   simp only [Dn]
   rw [uZ]
  | lst ds =>
   simp only [Dn] at hy
   obtain ⟨a,xs,rfl,ha,_,da⟩:=hy
   obtain ⟨h1,h2⟩:=hf
   obtain ⟨ns,rfl⟩:=AX h1
   have e:=aR.ints.mp da
   subst e
   refine ⟨a,_,rfl,.inl (fS.of ha),rfl,qL ns,k _ H _ (Same.refl H) ?_ h2⟩
   simp only [Dn]
   rw [uZ]
  | _=>exact hf.elim
 | _=>cases dy<;>exact hf.elim
section
variable {a b:Expr} {pos:Pos} {ta tb:WE}
noncomputable def ltF:F2:=uX fun i j=>.bl (decide (i<j))
noncomputable def gtF:F2:=uX fun i j=>.bl (decide (i>j))
noncomputable def geF:F2:=uX fun i j=>.bl (decide (i >= j))
theorem aFb (ha:cD X a ta) (hb:cD X b tb):cD X (.Compare a [.Eq] [b] pos) (gE UX ta tb):=UW WJ PZ ha hb (kO _)
theorem in3 (ha:cD X a ta) (hb:cD X b tb) (hm:behindInMarks .In b=false:=by with_unfolding_all rfl):cD X (.Compare a [.In] [b] pos) (gE (inF false) ta tb):=UW yA P0 ha hb hm
theorem aFc (ha:cD X a ta) (hb:cD X b tb):wN X (.Compare a [.Lt] [b] pos) (kU (gE ltF ta tb)):=rT WK uY ha hb (kO _)
theorem aFd (ha:cD X a ta) (hb:cD X b tb):wN X (.Compare a [.Gt] [b] pos) (kU (gE gtF ta tb)):=rT aB7 uY ha hb (kO _)
theorem aFe (ha:cD X a ta) (hb:cD X b tb):wN X (.Compare a [.GtE] [b] pos) (kU (gE geF ta tb)):=rT aB8 uY ha hb (kO _)
theorem aBu (ha:cD X a ta) (hb:cD X b tb):wN X (.Compare a [.Eq] [b] pos) (kU (gE UX ta tb)):=rT WJ PZ ha hb (kO _)
theorem aBv (ha:cD X a ta) (hb:cD X b tb):wN X (.Compare a [.NotEq] [b] pos) (kU (gE ZM ta tb)):=rT aB5 ZN ha hb (kO _)
theorem aFf (ha:cD X a ta) (hb:cD X b tb) (hm:behindInMarks .In b=false:=by with_unfolding_all rfl):wN X (.Compare a [.In] [b] pos) (kU (gE (inF false) ta tb)):=rT yA P0 ha hb hm
theorem aBw (ha:cD X a ta) (hb:cD X b tb) (hm:behindInMarks .NotIn b=false:=by with_unfolding_all rfl):wN X (.Compare a [.NotIn] [b] pos) (kU (gE (inF true) ta tb)):=rT AQ P0 ha hb hm
end
noncomputable def isD:D->Bool
 | .non=>true
 | _=>false
noncomputable def UY:F2:=fun x y Q=>isD y=true/\Q (.bl (isD x))
theorem P4 {K:PySem.W.Frag}:O3 K (fun x y H Q=>y=.non/\Q (.bl (decide (x=.non))) H) UY:=by
 intro S H x y dx dy Q3 Q fc hx hy hf k
 obtain ⟨h1,h2⟩:=hf
 cases dy<;>try exact absurd (show false=true from h1) Bool.false_ne_true
 simp only [Dn] at hy
 refine ⟨hy,k _ H _ (Same.refl H) ?_ h2⟩
 cases dx<;>simp only [Dn] at hx ⊢
 all_goals first
  | (subst hx; simp [isD])
  | (obtain ⟨a,xs,rfl,_⟩:=hx; simp [isD])
  | (obtain ⟨a,_,xs,rfl,_⟩:=hx; simp [isD])
  | (obtain ⟨a,rfl,_⟩:=hx; simp [isD])
theorem aBx {a b:Expr} {pos:Pos} {ta tb:WE} (ha:cD X a ta) (hb:cD X b tb):wN X (.Compare a [.Is] [b] pos) (kU (gE UY ta tb)):=rT OU P4 ha hb (kO _)
theorem aFg {a b:Expr} {pos:Pos} {ta tb:WE} (ha:cD X a ta) (hb:cD X b tb):cD X (.Compare a [.Is] [b] pos) (gE UY ta tb):=UW OU P4 ha hb (kO _)
noncomputable def aBy (t:WT):WT:=fun ρ Q=>t ρ fun b=>Q (!b)
noncomputable def aBz (t u:WT):WT:=fun ρ Q=>t ρ fun b=>if b=true then u ρ Q else Q false
noncomputable def aFh (t u:WT):WT:=fun ρ Q=>t ρ fun b=>if b=true then Q true else u ρ Q
noncomputable def NA (X:Cx) (e:Expr) (t:WT):Prop:=PW X e (liftT X.K t)
theorem ZO {e:Expr} {t t':TT} (h:PW X e t) (f:∀ σ H Q,t' σ H Q->t σ H Q):PW X e t':=fun wh pins s σ H Q I q=>h wh pins s σ H Q I (f σ H Q q)
section
variable {a b:Expr} {rest:List Expr} {pos:Pos} {ta tb:WT}
theorem NA.pt {e:Expr} {t:WT} (h:NA X e t):wN X e t:=PW.pt h
theorem aCA (ha:wN X a ta):wN X (.UnaryOp .Not a pos) (aBy ta):=UR (YK ha) fun σ H Q aFi=>by obtain ⟨S,ρ,Q3,fc,sl,ht,k⟩:=aFi; exact ⟨S,ρ,_,fc,sl,ht,fun b H1 s1 q1=>k (!b) H1 s1 q1⟩
theorem aFj (ha:wN X a ta):NA X (.BoolOp .And [a] pos) ta:=TZ ha
theorem or1 (ha:wN X a ta):NA X (.BoolOp .Or [a] pos) ta:=YI ha
theorem aCB (ha:wN X a ta) (hb:NA X (.BoolOp .And (b::rest) pos) tb):NA X (.BoolOp .And (a::b::rest) pos) (aBz ta tb):=ZO (YJ ha hb) fun σ H Q aFk=>by
 obtain ⟨S,ρ,Q3,fc,sl,ht,k⟩:=aFk
 refine ⟨S,ρ,_,fc,sl,ht,fun c H1 s1 q1=>?_⟩
 cases c with
 | true=>rw [if_pos rfl] at q1 ⊢; exact ⟨S,ρ,Q3,aW fc s1,Sl.fits (.same s1) sl,q1,fun b' H2 s2 q2=>k b' H2 (s1.trans s2) q2⟩
 | false=>rw [if_neg Bool.false_ne_true] at q1 ⊢; exact k false H1 s1 q1
theorem aFl (ha:wN X a ta) (hb:NA X (.BoolOp .Or (b::rest) pos) tb):NA X (.BoolOp .Or (a::b::rest) pos) (aFh ta tb):=ZO (aBQ ha hb) fun σ H Q aFm=>by
 obtain ⟨S,ρ,Q3,fc,sl,ht,k⟩:=aFm
 refine ⟨S,ρ,_,fc,sl,ht,fun c H1 s1 q1=>?_⟩
 cases c with
 | false=>rw [if_neg Bool.false_ne_true] at q1 ⊢; exact ⟨S,ρ,Q3,aW fc s1,Sl.fits (.same s1) sl,q1,fun b' H2 s2 q2=>k b' H2 (s1.trans s2) q2⟩
 | true=>rw [if_pos rfl] at q1 ⊢; exact k true H1 s1 q1
end
noncomputable def aFo (ta tb:WE):WE:=fun ρ Q=>ta ρ fun x=>match x with
 | .bl true=>tb ρ Q
 | .bl false=>Q (.bl false)
 | _=>False
noncomputable def wOr (ta tb:WE):WE:=fun ρ Q=>ta ρ fun x=>match x with
 | .bl true=>Q (.bl true)
 | .bl false=>tb ρ Q
 | _=>False
noncomputable def aFp (ta:WE):WE:=fun ρ Q=>ta ρ fun x=>match x with
 | .bl b=>Q (.bl (!b))
 | _=>False
noncomputable def wIf (t:WT) (ta tb:WE):WE:=fun ρ Q=>t ρ fun b=>if b=true then ta ρ Q else tb ρ Q
section
variable {a b c:Expr} {rest:List Expr} {pos:Pos} {ta tb:WE} {tc:WT}
theorem aFq {op} (ha:cD X a ta):cD X (.BoolOp op [a] pos) ta:=YL ha
theorem aFr (ha:cD X a ta) (hb:cD X (.BoolOp .And (b::rest) pos) tb):cD X (.BoolOp .And (a::b::rest) pos) (aFo ta tb):=imp (YM ha hb) fun σ H Q aFs=>by
 obtain ⟨S,ρ,Q3,fc,sl,ht,k⟩:=aFs
 refine ⟨S,ρ,_,fc,sl,ht,fun v H1 d s1 d1 q1=>?_⟩
 cases d with
 | bl c =>
  simp only [Dn] at d1
  refine ⟨c,d1,?_⟩
  cases c with
  | true=>rw [if_pos rfl]; exact ⟨S,ρ,Q3,aW fc s1,Sl.fits (.same s1) sl,q1,fun v' H2 d' s2 d2 q2=>k v' H2 d' (s1.trans s2) d2 q2⟩
  | false=>rw [if_neg Bool.false_ne_true]; exact k _ H1 (.bl false) s1 (by simp only [Dn]) q1
 | _=>exact q1.elim
theorem or3 (ha:cD X a ta) (hb:cD X (.BoolOp .Or (b::rest) pos) tb):cD X (.BoolOp .Or (a::b::rest) pos) (wOr ta tb):=imp (aBT ha hb) fun σ H Q aFt=>by
 obtain ⟨S,ρ,Q3,fc,sl,ht,k⟩:=aFt
 refine ⟨S,ρ,_,fc,sl,ht,fun v H1 d s1 d1 q1=>?_⟩
 cases d with
 | bl c =>
  simp only [Dn] at d1
  refine ⟨c,d1,?_⟩
  cases c with
  | false=>rw [if_neg Bool.false_ne_true]; exact ⟨S,ρ,Q3,aW fc s1,Sl.fits (.same s1) sl,q1,fun v' H2 d' s2 d2 q2=>k v' H2 d' (s1.trans s2) d2 q2⟩
  | true=>rw [if_pos rfl]; exact k _ H1 (.bl true) s1 (by simp only [Dn]) q1
 | _=>exact q1.elim
theorem aFu (ha:cD X a ta):cD X (.UnaryOp .Not a pos) (aFp ta):=imp (YN ha) fun σ H Q aFv=>by
 obtain ⟨S,ρ,Q3,fc,sl,ht,k⟩:=aFv
 refine ⟨S,ρ,_,fc,sl,ht,fun v H1 d s1 d1 q1=>?_⟩
 cases d with
 | bl c=>simp only [Dn] at d1; exact ⟨c,d1,k _ H1 (.bl (!c)) s1 (by simp only [Dn]) q1⟩
 | _=>exact q1.elim
theorem if3 (hc:wN X c tc) (ha:cD X a ta) (hb:cD X b tb):cD X (.IfExp c a b pos) (wIf tc ta tb):=imp (OP hc ha hb) fun σ H Q aFw=>by
 obtain ⟨S,ρ,Q3,fc,sl,ht,k⟩:=aFw
 refine ⟨S,ρ,_,fc,sl,ht,fun c H1 s1 q1=>?_⟩
 cases c with
 | true=>rw [if_pos rfl] at q1 ⊢; exact ⟨S,ρ,Q3,aW fc s1,Sl.fits (.same s1) sl,q1,fun v' H2 d' s2 d2 q2=>k v' H2 d' (s1.trans s2) d2 q2⟩
 | false=>rw [if_neg Bool.false_ne_true] at q1 ⊢; exact ⟨S,ρ,Q3,aW fc s1,Sl.fits (.same s1) sl,q1,fun v' H2 d' s2 d2 q2=>k v' H2 d' (s1.trans s2) d2 q2⟩
noncomputable def aFx (ta:WE):WE:=fun ρ Q=>ta ρ fun x=>match x with
 | .int i=>Q (.int (-i))
 | _=>False
theorem aFy (ha:cD X a ta):cD X (.UnaryOp .USub a pos) (aFx ta):=imp (aB1 YX ha) fun σ H Q aFz=>by
 obtain ⟨S,ρ,Q3,fc,sl,ht,k⟩:=aFz
 refine ⟨S,ρ,_,fc,sl,ht,fun v H1 d s1 d1 q1=>?_⟩
 cases d with
 | int i=>simp only [Dn] at d1; exact ⟨i,d1,k _ H1 (.int (-i)) s1 (by simp only [Dn]) q1⟩
 | _=>exact q1.elim
end
noncomputable def FX (f g:F2) (ta tb tc:WE):WE:=fun ρ Q=>ta ρ fun x=>tb ρ fun y=>f x y fun z=>match z with
 | .bl true=>tc ρ fun u=>g y u Q
 | .bl false=>Q (.bl false)
 | _=>False
theorem FY {K:PySem.W.Frag} {r r':R2} {f g:F2} {ta tb tc:WE} {σ:L2.St} {H:Hp} {Q:VK} (h1:O3 K r f) (h2:O3 K r' g) (h:lift K (FX f g ta tb tc) σ H Q):OV r r' (lift K ta) (lift K tb) (lift K tc) σ H Q:=by
 obtain ⟨S,ρ,Q3,fc,sl,ht,k⟩:=h
 refine ⟨S,ρ,_,fc,sl,ht,fun v H1 d s1 d1 q1=>?_⟩
 refine ⟨S,ρ,_,aW fc s1,Sl.fits (.same s1) sl,q1,fun u H2 e s2 e1 q2=>?_⟩
 refine h1 S H2 v u d e _ _ (aW fc (s1.trans s2)) (Dn.fits (.same s2) _ _ d1) e1 q2 fun z H3 dz s3 dz1 q3=>?_
 cases dz with
 | bl c =>
  simp only [Dn] at dz1
  refine ⟨c,dz1,?_⟩
  cases c with
  | false=>rw [if_neg Bool.false_ne_true]; exact k _ H3 (.bl false) ((s1.trans s2).trans s3) (by simp only [Dn]) q3
  | true =>
   rw [if_pos rfl]
   refine ⟨S,ρ,_,aW fc ((s1.trans s2).trans s3),Sl.fits (.same ((s1.trans s2).trans s3)) sl,q3,fun w' H4 dw s4 dw1 q4=>?_⟩
   exact h2 S H4 u w' e dw Q3 Q (aW fc (((s1.trans s2).trans s3).trans s4)) (Dn.fits (.same (s3.trans s4)) _ _ e1) dw1 q4 fun v' H5 d' s5 d5 q5=>k v' H5 d' ((((s1.trans s2).trans s3).trans s4).trans s5) d5 q5
 | _=>exact q3.elim
theorem ZP {a b c:Expr} {op op':CmpOp} {pos:Pos} {r r':R2} {f g:F2} {ta tb tc:WE} (ho:iT X (compareOp op) r) (ho':iT X (compareOp op') r') (h1:O3 X.K r f) (h2:O3 X.K r' g) (ha:cD X a ta) (hb:cD X b tb) (hc:cD X c tc)
  (hm:lastMarks [op,op'] [b,c]=false:=by with_unfolding_all rfl):cD X (.Compare a [op,op'] [b,c] pos) (FX f g ta tb tc):=imp (OW ho ho' ha hb hc hm) fun _ _ _=>FY h1 h2
noncomputable def ixF:F2
 | .lst ds,.int i,Q=>(match rR ds i with | some d=>Q d | none=>False)
 | .tup ds,.int i,Q=>(match rR ds i with | some d=>Q d | none=>False)
 | .nW ns,.int i,Q=>(match rR ns i with | some n=>Q (.int n) | none=>False)
 | _,_,_=>False
theorem aR.at {K:PySem.W.Frag} {S:Addr->Prop} {H:Hp} {ds:List D} {xs:List V} {i:Int} {d:D} (h:aR K S H ds xs) (e:rR ds i=some d):∃ v,rR xs i=some v/\Dn K S H d v:=by
 unfold rR at e ⊢
 rw [<- h.len]
 cases q:UI ds.length i with
 | none=>rw [q] at e; cases e
 | some j =>
  rw [q] at e
  obtain ⟨v,e1,dn⟩:=h.get (i:=j) (d:=d) e
  exact ⟨v,e1,dn⟩
theorem UZ {α β:Type} (f:α->β) (xs:List α) (i:Int):rR (xs.map f) i=(rR xs i).map f:=by
 unfold rR
 rw [List.length_map]
 cases UI xs.length i with
 | none=>rfl
 | some j=>simp
theorem aCC {K:PySem.W.Frag}:O3 K (fun x y H Q=>aBf K x y H Q\/aBg K x y H Q) ixF:=by
 intro S H x y dx dy Q3 Q fc hx hy hf k
 cases dx with
 | lst ds =>
  cases dy with
  | int i =>
   simp only [Dn] at hx hy
   obtain ⟨a,xs,rfl,ha,sa,da⟩:=hx
   have hf:(match rR ds i with | some d=>Q3 d | none=>False):=hf
   cases e:rR ds i with
   | none=>rw [e] at hf; exact hf.elim
   | some d =>
    rw [e] at hf
    obtain ⟨v,e1,dv⟩:=da.at e
    exact .inl ⟨a,xs,i,v,rfl,hy,fS.of ha,e1,k v H d (Same.refl H) dv hf⟩
  | _=>exact hf.elim
 | tup ds =>
  cases dy with
  | int i =>
   simp only [Dn] at hx hy
   obtain ⟨a,xs,rfl,ha,da⟩:=hx
   have hf:(match rR ds i with | some d=>Q3 d | none=>False):=hf
   cases e:rR ds i with
   | none=>rw [e] at hf; exact hf.elim
   | some d =>
    rw [e] at hf
    obtain ⟨v,e1,dv⟩:=da.at e
    exact .inr ⟨a,xs,i,v,rfl,hy,(fU.of ha),e1,k v H d (Same.refl H) dv hf⟩
  | _=>exact hf.elim
 | nW ns =>
  cases dy with
  | int i =>
   simp only [Dn] at hx hy
   obtain ⟨a,rfl,ha⟩:=hx
   have hf:(match rR ns i with | some n=>Q3 (.int n) | none=>False):=hf
   cases e:rR ns i with
   | none=>rw [e] at hf; exact hf.elim
   | some n =>
    rw [e] at hf
    exact .inl ⟨a,_,i,.int n,rfl,hy,ha.sq,by rw [UZ,e]; rfl,k _ H (.int n) (Same.refl H) (by simp only [Dn]) hf⟩
  | _=>exact hf.elim
 | _=>cases dy<;>exact hf.elim
theorem ix3 {a b:Expr} {pos:Pos} {ta tb:WE} (ha:cD X a ta) (hb:cD X b tb) (hs:tG b:=by intro _ _; rfl):cD X (.Subscript a b pos) (gE ixF ta tb) :=
 imp (WR (UJ.or Y8) ha hb hs) fun _ _ _=>kT aCC
noncomputable abbrev F1:=List D->(D->Prop)->Prop
noncomputable def R9 (f:F1) (t:WA):WE:=fun ρ Q=>t ρ fun ds=>f ds Q
noncomputable def C3 (K:PySem.W.Frag) (r:List V->Hp->VK->Prop) (f:F1):Prop:=∀ (S:Addr->Prop) (H:Hp) (xs:List V) (ds:List D) (Q3:D->Prop) (Q:VK),(∀ a,H a=none->S a)->aR K S H ds xs->f ds Q3 ->
 (∀ v H' d,Same H H'->Dn K S H' d v->Q3 d->Q v H')->r xs H Q
noncomputable def C3F (K:PySem.W.Frag) (r:List V->Hp->VK->Prop) (f:F1):Prop:=∀ (S:Addr->Prop) (H:Hp) (xs:List V) (ds:List D) (Q3:D->Prop) (Q:VK),(∀ a,H a=none->S a)->aR K S H ds xs->f ds Q3 ->
 (∀ p ys H' es,H p=none->H' p=some (.lst ys)->Same H H'->aR K (fun a=>S a/\a≠p) H' es ys->Q3 (.lst es)->Q (.ref p) H')->r xs H Q
theorem JD {K:PySem.W.Frag} {r:List V->Hp->VK->Prop} {f:F1} {t:WA} {σ:L2.St} {H:Hp} {Q:VK} (h3:C3 K r f) (h:lift K (R9 f t) σ H Q):tCB r (PN K t) σ H Q:=by
 obtain ⟨S,ρ,Q3,fc,sl,ht,k⟩:=h
 refine ⟨S,ρ,_,fc,sl,ht,fun vs H1 ds s1 d1 q1=>?_⟩
 exact h3 S H1 vs ds Q3 Q (aW fc s1) d1 q1 fun v H' d s' d' q'=>k v H' d (s1.trans s') d' q'
theorem P5 {K:PySem.W.Frag} {r:List V->Hp->VK->Prop} {f:F1} {t:WA} {σ:L2.St} {H:Hp} {Q:VK} (h3:C3F K r f) (h:PQ K (R9 f t) σ H Q):tCB r (PN K t) σ H Q:=by
 obtain ⟨S,ρ,Q3,fc,sl,ht,k⟩:=h
 refine ⟨S,ρ,_,fc,sl,ht,fun vs H1 ds s1 d1 q1=>?_⟩
 exact h3 S H1 vs ds Q3 Q (aW fc s1) d1 q1 fun p ys H' es hp hp' s' d' q'=>k p ys H' es (s1.free hp) hp' (s1.trans s') d' q'
theorem AZ {x:Str} {p pos:Pos} {e:Expr} {es:List Expr} {t:WA} {id:String} {r:List V->Hp->VK->Prop} {f:F1} (hc:fK X (.builtin id) r) (h3:C3 X.K r f) (hv:bootBuiltins x=some (.builtin id)) (hg:Gl X x) (hm:X.mg x=none) (ha:BQ X (e::es) t) (hn:x ≠ "__name__" := by decide) (hdb:(x == ("__debug__" : Str))=false:=by decide)
  (he:starEach (e::es) X.env=(false,eval e X.env)::starEach es X.env:=by rfl) (hpl:(backTo pos (starEach es X.env)).any (·.1)=false:=by rfl):cD X (.Call (.Name x p) (e::es) [] pos) (R9 f t) :=
 imp (oP hc hg hm hv ha hn hdb he hpl) fun _ _ _=>JD h3
theorem JE {x:Str} {p pos:Pos} {e:Expr} {es:List Expr} {t:WA} {id:String} {r:List V->Hp->VK->Prop} {f:F1} (hc:fK X (.builtin id) r) (h3:C3F X.K r f) (hv:bootBuiltins x=some (.builtin id)) (hg:Gl X x) (hm:X.mg x=none) (ha:BQ X (e::es) t) (hn:x ≠ "__name__" := by decide) (hdb:(x == ("__debug__" : Str))=false:=by decide)
  (he:starEach (e::es) X.env=(false,eval e X.env)::starEach es X.env:=by rfl) (hpl:(backTo pos (starEach es X.env)).any (·.1)=false:=by rfl):ED X (.Call (.Name x p) (e::es) [] pos) (R9 f t) :=
 imp (oP hc hg hm hv ha hn hdb he hpl) fun _ _ _=>P5 h3
theorem A1 {x:Str} {p pos:Pos} {e:Expr} {es:List Expr} {t:WA} {T:String} {r:List V->Hp->VK->Prop} {f:F1} (hc:fK X (.type T) r) (h3:C3 X.K r f) (hv:bootBuiltins x=some (.type T)) (hg:Gl X x) (hm:X.mg x=none) (ha:BQ X (e::es) t) (hn:x ≠ "__name__" := by decide) (hdb:(x == ("__debug__" : Str))=false:=by decide)
  (he:starEach (e::es) X.env=(false,eval e X.env)::starEach es X.env:=by rfl) (hpl:(backTo pos (starEach es X.env)).any (·.1)=false:=by rfl):cD X (.Call (.Name x p) (e::es) [] pos) (R9 f t) :=
 imp (qJ hc hg hm hv ha hn hdb he hpl) fun _ _ _=>JD h3
noncomputable def FZ:F1
 | [.lst ds],Q=>Q (.int ds.length)
 | [.tup ds],Q=>Q (.int ds.length)
 | [.nW ns],Q=>Q (.int ns.length)
 | _,_=>False
theorem ZQ {K:PySem.W.Frag}:C3 K (fun xs H Q=>∃ p ys,xs=[.ref p]/\(fS K H p ys\/fU K H p ys)/\Q (.int ys.length) H) FZ:=by
 intro S H xs ds Q3 Q fc hd hf k
 match ds,hf with
 | [.lst es],hf =>
  obtain ⟨v,r,rfl,h1,h2⟩:=hd.bR
  simp only [aR] at h2
  subst h2
  simp only [Dn] at h1
  obtain ⟨a,ys,rfl,ha,sa,da⟩:=h1
  exact ⟨a,ys,rfl,.inl (fS.of ha),k _ H _ (Same.refl H) (by simp only [Dn]; rw [da.len]) hf⟩
 | [.tup es],hf =>
  obtain ⟨v,r,rfl,h1,h2⟩:=hd.bR
  simp only [aR] at h2
  subst h2
  simp only [Dn] at h1
  obtain ⟨a,ys,rfl,ha,da⟩:=h1
  exact ⟨a,ys,rfl,.inr (fU.of ha),k _ H _ (Same.refl H) (by simp only [Dn]; rw [da.len]) hf⟩
 | [.nW ns],hf =>
  obtain ⟨v,r,rfl,h1,h2⟩:=hd.bR
  simp only [aR] at h2
  subst h2
  simp only [Dn] at h1
  obtain ⟨a,rfl,ha⟩:=h1
  exact ⟨a,_,rfl,.inl ha.sq,k _ H _ (Same.refl H) (by simp only [Dn]; rw [List.length_map]) hf⟩
theorem aGB {p pos:Pos} {e:Expr} {t:WA} (hm:X.mg "len" = none) (ha:BQ X [e] t) (hg:Gl X "len" := by rfl)
  (he:starEach [e] X.env=(false,eval e X.env)::starEach [] X.env:=by rfl):cD X (.Call (.Name "len" p) [e] [] pos) (R9 FZ t):=AZ AR ZQ PySem.boot_len hg hm ha (by decide) (by decide) he (by rfl)
noncomputable def F0:F1
 | [.lst ds],Q=>Q (.tup ds)
 | [.tup ds],Q=>Q (.tup ds)
 | _,_=>False
theorem P6 {K:PySem.W.Frag}:C3 K (fun xs H Q=>∃ p ys,xs=[.ref p]/\((fS K H p ys /\ ∀ l,H l=none->Q (.ref l) (upd H l (.tup ys)))\/(fU K H p ys/\Q (.ref p) H))) F0:=by
 intro S H xs ds Q3 Q fc hd hf k
 match ds,hf with
 | [.lst es],hf =>
  obtain ⟨v,r,rfl,h1,h2⟩:=hd.bR
  simp only [aR] at h2
  subst h2
  simp only [Dn] at h1
  obtain ⟨a,ys,rfl,ha,sa,da⟩:=h1
  refine ⟨a,ys,rfl,.inl ⟨fS.of ha,fun l hl=>k _ _ _ (aK hl) ?_ hf⟩⟩
  simp only [Dn]
  exact ⟨l,ys,rfl,aS,aR.fits (.same (aK hl)) _ _ da⟩
 | [.tup es],hf =>
  obtain ⟨v,r,rfl,h1,h2⟩:=hd.bR
  simp only [aR] at h2
  subst h2
  have h1':=h1
  simp only [Dn] at h1
  obtain ⟨a,ys,rfl,ha,da⟩:=h1
  exact ⟨a,ys,rfl,.inr ⟨(fU.of ha),k _ H _ (Same.refl H) h1' hf⟩⟩
theorem ZR {p pos:Pos} {e:Expr} {t:WA} (hm:X.mg "tuple" = none) (hv:bootBuiltins "tuple" = some (.type "tuple")) (ha:BQ X [e] t) (hg:Gl X "tuple" := by rfl)
  (he:starEach [e] X.env=(false,eval e X.env)::starEach [] X.env:=by rfl):cD X (.Call (.Name "tuple" p) [e] [] pos) (R9 F0 t):=A1 w4 P6 hv hg hm ha (by decide) (by decide) he (by rfl)
noncomputable abbrev Spec:=List D->(D->Prop)->Prop
noncomputable def sp3 (K:PySem.W.Frag) (R:Spec):Sp:=fun vs H Q _=>∃ (S:Addr->Prop) (ds:List D) (Q3:D->Prop),(∀ a,H a=none->S a)/\aR K S H ds vs/\R ds Q3 /\ ∀ v H' d,Same H H'->Dn K S H' d v->Q3 d->Q v H'
theorem aCD {k:Nat} {f:Addr} {fd:FuncData} {ps:List Str} {R:Spec} {x:Str} {p pos:Pos} {e:Expr} {es:List Expr} {t:WA} (F:aU X.prog X.w X.K X.mg X.base d8 k f fd ps (sp3 X.K R)) (hr:iU k X.A) (hm:X.mg x=some (.ref f)) (hk:PySem.W.keepIn X.K (.ref f)=true) (hb:Binds X.K fd ps [])
  (ha:BQ X (e::es) t) (hg:Gl X x:=by rfl) (hdb:(x == ("__debug__" : Str))=false:=by decide) (he:starEach (e::es) X.env=(false,eval e X.env)::starEach es X.env:=by rfl) (hpl:(backTo pos (starEach es X.env)).any (·.1)=false:=by rfl) :
  cD X (.Call (.Name x p) (e::es) [] pos) (R9 R t):=imp (AL F hr hg hm hk hb .nil aBk ha hdb he hpl) fun σ H Q aGC=>by
 obtain ⟨S,ρ,Q3,fc,sl,ht,k⟩:=aGC
 refine ⟨S,ρ,_,fc,sl,ht,fun vs H1 ds s1 d1 q1=>?_⟩
 show sp3 X.K R (vs++[]) H1 Q E0
 rw [List.append_nil]
 exact ⟨S,ds,Q3,aW fc s1,d1,q1,fun v H' d s' d' q'=>k v H' d (s1.trans s') d' q'⟩
end
structure DE where
 nx:aT->Prop
 rt:D->Prop
 bk:aT->Prop:=fun _=>False
 ct:aT->Prop:=fun _=>False
 ex:Str->Prop:=fun _=>False
noncomputable abbrev WS:=DE->aT->Prop
structure A2 (X:Cx) (pins:List (Addr×Obj)) (H:Hp) (s:Shared) (e:Addr) (cls a0:Value) (P:List Addr):Prop where
 mem:e∈P
 free:∀ q∈P,H q=none
 new:∀ q∈P,X.s₀.heap.get? q=none
 fld:∀ q∈P,∃ o vs,s.heap.get? q=some o/\o.data=.fields vs
 pin:∀ q∈P,∀ p∈X.pn++pins,p.1≠q
 tr:(∃ oe vs,s.heap.get? e=some oe/\oe.cls=cls/\oe.data=.fields vs/\vs[1]? = some .none/\vs[0]? = some a0) \/
  (∃ oe vs T oT ts,s.heap.get? e=some oe/\(oe.cls=cls/\vs[0]? = some a0)/\oe.data=.fields vs/\vs[1]? = some (.ref T)/\T∈P/\T≠e/\s.heap.get? T=some oT/\oT.data=.fields ts/\ts[3]? = some .none)
noncomputable def XC (X:Cx) (c:Str) (H:Hp):Prop:=∃ C:Addr,X.mg c=some (.ref C) /\ ∀ (pins:List (Addr×Obj)) (σ:L2.St) (s:Shared) (e:Addr) (a0:Value) (P:List Addr),Inv X pins σ H s->A2 X pins H s e (.ref C) a0 P->X.xe (.ref e) s
structure ZS (K:PySem.W.Frag) (xc:Str->Hp->Prop) (n:Nat) (H₀:Hp) (S:Addr->Prop) (G:List (D×V)) (E:DE) (B:Ends):Prop where
 nx:∀ w σ H ρ,σ.length=n->ST K H₀ S w σ H ρ G->E.nx ρ->B.nx σ H
 rt:∀ v H d,Same H₀ H->Dn K S H d v->E.rt d->B.rt v H
 bk:∀ w σ H ρ,σ.length=n->ST K H₀ S w σ H ρ G->E.bk ρ->B.bk σ H
 ct:∀ w σ H ρ,σ.length=n->ST K H₀ S w σ H ρ G->E.ct ρ->B.ct σ H
 ex:∀ c H,Same H₀ H->E.ex c->xc c H
noncomputable def WZ (K:PySem.W.Frag) (xc:Str->Hp->Prop) (n:Nat) (t:WS):TS:=fun B σ H=>∃ (H₀:Hp) (S:Addr->Prop) (w:Nat->Addr) (ρ:aT) (G:List (D×V)) (E:DE),σ.length=n/\ST K H₀ S w σ H ρ G/\t E ρ/\ZS K xc n H₀ S G E B
noncomputable def GA (X:Cx) (st:Stmt) (t:WS):Prop:=PS X st (WZ X.K (XC X) X.N.length t)
noncomputable def u1 (X:Cx) (st:List Stmt) (t:WS):Prop:=FF X st (WZ X.K (XC X) X.N.length t)
section
variable {X:Cx}
theorem qM {e:Stmt} {t t':TS} (h:PS X e t) (f:∀ B σ H,t' B σ H->t B σ H):PS X e t':=fun pins s σ H B I q=>h pins s σ H B I (f B σ H q)
theorem JF {e:List Stmt} {t t':TS} (h:FF X e t) (f:∀ B σ H,t' B σ H->t B σ H):FF X e t':=fun pins s σ H B I q=>h pins s σ H B I (f B σ H q)
noncomputable def aCE:WS:=fun E ρ=>E.nx ρ
noncomputable def ZT (t u:WS):WS:=fun E ρ=>t { E with nx:=u E } ρ
theorem aGD:u1 X [] aCE:=JF T3 fun B σ H aGE=>by obtain ⟨H₀,S,w,ρ,G,E,hl,st,ht,ok⟩:=aGE; exact ok.nx w σ H ρ hl st ht
theorem aGF {st:Stmt} {rest:List Stmt} {t u:WS} (h1:GA X st t) (h2:u1 X rest u):u1 X (st::rest) (ZT t u):=JF (OQ h1 h2) fun B σ H aGG=>by
 obtain ⟨H₀,S,w,ρ,G,E,hl,sT,ht,ok⟩:=aGG
 exact ⟨H₀,S,w,ρ,G,{ E with nx:=u E },hl,sT,ht,⟨fun w' σ' H' ρ' hl' st' q=>⟨H₀,S,w',ρ',G,E,hl',st',q,ok⟩,ok.rt,ok.bk,ok.ct,ok.ex⟩⟩
theorem aCF {st:Stmt} {t:WS} (h1:GA X st t):u1 X [st] t:=JF (T4 h1) fun _ _ _ h=>h
noncomputable def aGH (t:WE):WS:=fun E ρ=>t (bQ ρ) E.rt
theorem aGI {e:Expr} {t:WE} {pos:Pos} (h:cD X e t):GA X (.Return (some e) pos) (aGH t):=qM (YO h) fun B σ H aGJ=>by
 obtain ⟨H₀,S,w,ρ,G,E,hl,st,ht,ok⟩:=aGJ
 exact ⟨S,bQ ρ,E.rt,st.PM,st.all,ht,fun v H' d s' d' q'=>ok.rt v H' d (st.sm.trans s') d' q'⟩
noncomputable def aGK (c:WT) (t u:WS):WS:=fun E ρ=>c (bQ ρ) fun b=>if b=true then t E ρ else u E ρ
theorem aGL {c:Expr} {a b:List Stmt} {pos:Pos} {tc:WT} {t u:WS} (hc:wN X c tc) (ha:u1 X a t) (hb:u1 X b u):GA X (.If c a b pos) (aGK tc t u):=qM (aBW hc ha hb) fun B σ H aGM=>by
 obtain ⟨H₀,S,w,ρ,G,E,hl,st,ht,ok⟩:=aGM
 refine ⟨S,bQ ρ,_,st.PM,st.all,ht,fun d H1 s1 q1=>?_⟩
 cases d with
 | true=>rw [if_pos rfl] at q1 ⊢; exact ⟨H₀,S,w,ρ,G,E,hl,st.same s1,q1,ok⟩
 | false=>rw [if_neg Bool.false_ne_true] at q1 ⊢; exact ⟨H₀,S,w,ρ,G,E,hl,st.same s1,q1,ok⟩
noncomputable def aGN (i:Nat) (t:WE):WS:=fun E ρ=>t (jY ρ) fun d=>E.nx (ρ.set i (.ro d))
noncomputable def aGO (i:Nat) (t:WE):WS:=fun E ρ=>t (jY ρ) fun d=>E.nx (ρ.set i (.ow d))
noncomputable def aCG (i:Nat) (t:WE):WS:=fun E ρ=>t (bQ ρ) fun d=>(match d with | .lst ds=>nX ds=true | _=>False)/\E.nx (ρ.set i (.ow d))
section
variable {i:Nat} {x:Str} {e:Expr} {t:WE} {pos pos':Pos}
theorem kW {N:List Str} {i:Nat} {x:Str} (h:N[i]? = some x):i<N.length:=(List.getElem?_eq_some_iff.mp h).1
theorem aGP (hN:X.N.Nodup) (he:cD X e t) (hi:X.N[i]? = some x:=by rfl) (hx:Loc X.env.scope x:=by first | exact .inl rfl | exact .inr rfl) (hs:swapsWith e (some (.Name x pos')) pos.line X.env=pure false:=by rfl) (hf:X.fn x=true\/X.env.scope.names.lookup x=some .local:=by first | exact .inl rfl | exact .inr rfl) :
  GA X (.Assign [.Name x pos'] e pos) (aGN i t):=qM (uQ hN hi hx he hs hf) fun B σ H aGQ=>by
 obtain ⟨H₀,S,w,ρ,G,E,hl,st,ht,ok⟩:=aGQ
 exact ⟨_,jY ρ,_,st.ZH,st.rd,ht,fun v H' d s' d' q'=>ok.nx w _ H' _ (by rw [List.length_set]; exact hl) ((st.same s').uV (by rw [hl]; exact kW hi) d') q'⟩
theorem aGR (hN:X.N.Nodup) (he:ED X e t) (hi:X.N[i]? = some x:=by rfl) (hx:Loc X.env.scope x:=by first | exact .inl rfl | exact .inr rfl) (hs:swapsWith e (some (.Name x pos')) pos.line X.env=pure false:=by rfl) (hf:X.fn x=true\/X.env.scope.names.lookup x=some .local:=by first | exact .inl rfl | exact .inr rfl) :
  GA X (.Assign [.Name x pos'] e pos) (aGO i t):=qM (uQ hN hi hx he hs hf) fun B σ H aGS=>by
 obtain ⟨H₀,S,w,ρ,G,E,hl,st,ht,ok⟩:=aGS
 exact ⟨_,jY ρ,_,st.ZH,st.rd,ht,fun p xs H' ds hp hp' s' d' q'=>ok.nx _ _ H' _ (by rw [List.length_set]; exact hl) (st.FV (d:=.lst ds) (by rw [hl]; exact kW hi) s' hp ⟨xs,hp',d'⟩) q'⟩
theorem aCH (hN:X.N.Nodup) (he:ED X e t) (hi:X.N[i]? = some x:=by rfl) (hx:Loc X.env.scope x:=by first | exact .inl rfl | exact .inr rfl) (hs:swapsWith e (some (.Name x pos')) pos.line X.env=pure false:=by rfl) (hf:X.fn x=true\/X.env.scope.names.lookup x=some .local:=by first | exact .inl rfl | exact .inr rfl) :
  GA X (.Assign [.Name x pos'] e pos) (aCG i t):=qM (uQ hN hi hx he hs hf) fun B σ H aGT=>by
 obtain ⟨H₀,S,w,ρ,G,E,hl,st,ht,ok⟩:=aGT
 exact ⟨_,bQ ρ,_,st.PM,st.all,ht,fun p xs H' ds hp hp' s' d' q'=>ok.nx _ _ H' _ (by rw [List.length_set]; exact hl) (st.FV (d:=.lst ds) (by rw [hl]; exact kW hi) s' hp ⟨xs,hp',aR.tJ q'.1 d'⟩) q'.2⟩
end
noncomputable def jD (N:List Str) (ds:List D):aT:=ds.map Sv.ro++List.replicate (N.length - ds.length) Sv.no
theorem CT {K:PySem.W.Frag} {H:Hp} {S:Addr->Prop} {N:List Str} {ds:List D} {vs:List V} (fc:∀ a,H a=none->S a) (h:aR K S H ds vs):ST K H S (fun _=>0) (L2.start N vs) H (jD N ds) []:=by
 have no:∀ (i:Nat) (d:D),(jD N ds)[i]?≠some (Sv.ow d):=fun i d e=>by
  unfold jD at e
  by_cases hi:i<ds.length
  ·rw [List.getElem?_append_left (by simpa using hi),List.getElem?_map] at e
   cases q:ds[i]? with
   | none=>rw [q] at e; cases e
   | some a=>rw [q] at e; cases e
  ·rw [List.getElem?_append_right (by simpa using hi),List.getElem?_replicate] at e
   split at e<;>cases e
 have so:∀ a,S a->SO S (fun _=>0) (jD N ds) a:=fun a s=>⟨s,fun i d e=>absurd e (no i d)⟩
 refine ⟨fc,Same.refl H,fun i d e=>absurd e (no i d),fun i j d e h1=>absurd h1 (no i d),fun i d e=>?_,fun g hg=>(nomatch hg),fun i _ e=>absurd e (no i _)⟩
 unfold jD at e
 by_cases hi:i<ds.length
 ·rw [List.getElem?_append_left (by simpa using hi),List.getElem?_map] at e
  cases q:ds[i]? with
  | none=>rw [q] at e; cases e
  | some a =>
   rw [q] at e
   cases e
   obtain ⟨v,e1,dv⟩:=h.get q
   refine ⟨v,?_,Dn.fits (.mono so) _ _ dv⟩
   unfold L2.start
   have hv:i<vs.length:=(List.getElem?_eq_some_iff.mp e1).1
   rw [List.getElem?_append_left (by simpa using hv),List.getElem?_map,e1]
   rfl
 ·rw [List.getElem?_append_right (by simpa using hi),List.getElem?_replicate] at e
  split at e<;>cases e
theorem aGU {P:Program} {w:World} {K:PySem.W.Frag} {mg:Str->Option Value} {base:Heap} {x qual:Str} {st:Stmt} {f:Addr} {fd:FuncData} {N ps:List Str} {k:Nat} {R:Spec} (F:nL K x qual st f fd) (S:bJ N ps (aI st)) (len:∀ ds Q,R ds Q->ds.length=ps.length)
  (hbody:∀ (cdv:Value) (A:Around) (outer:List Env) (s:Shared) (H:Hp) (E:XK),iU k (A.deeper (envOfC qual (aI st) s.heap.objs.size f cdv)) ->
   ∃ t:WS,u1 (qI d8 P w K mg base N qual (aI st) f cdv A outer s H E).WD (bD st) t /\ ∀ ds Q,R ds Q->t { nx:=fun _=>Q .non,rt:=Q } (jD N ds)):aU P w K mg base d8 (k+1) f fd ps (sp3 K R):=by
 refine F.ok S (fun vs H Q E h=>?_) fun cdv A outer s H vs Q E hr h=>?_
 ·obtain ⟨S',ds,Q3,fc,dn,r,_⟩:=h
  rw [<- dn.len]
  exact len ds Q3 r
 ·obtain ⟨t,ht,hq⟩:=hbody cdv A outer s H E hr
  obtain ⟨S',ds,Q3,fc,dn,r,kk⟩:=h
  refine ⟨_,ht,H,S',fun _=>0,jD N ds,[],{ nx:=fun _=>Q3 .non,rt:=Q3 },?_,CT fc dn,hq ds Q3 r,⟨fun w' σ' H' ρ' _ st' q=>?_,fun v H' d s' d' q=>kk v H' d s' d' q,fun _ _ _ _ _ _ q=>q,fun _ _ _ _ _ _ q=>q,fun _ _ _ q=>q.elim⟩⟩
  ·have hl:=len ds Q3 r
   have hl2:=dn.len
   have hp:ps.length<=N.length:=by have:=congrArg List.length S.pre; rw [List.length_take] at this; omega
   unfold L2.start
   show _=N.length
   rw [List.length_append,List.length_map,List.length_replicate]
   omega
  ·exact kk .non H' .non st'.sm (by simp only [Dn]) q
end
noncomputable abbrev WX:=aT->(aT->D->Prop)->Prop
noncomputable def JG (K:PySem.W.Frag) (n:Nat) (t:WX):TE:=fun σ H Q=>∃ (H₀:Hp) (S:Addr->Prop) (w:Nat->Addr) (ρ:aT) (G:List (D×V)) (Q3:aT->D->Prop),σ.length=n/\ST K H₀ S w σ H ρ G/\t ρ Q3 /\
 ∀ w' v H' ρ' d,ST K H₀ S w' σ H' ρ' G->Dn K (SO S w' ρ') H' d v->Q3 ρ' d->Q v H'
noncomputable def GB (X:Cx) (e:Expr) (t:WX):Prop:=PE X e (JG X.K X.N.length t)
noncomputable def aCI (t:WE):WX:=fun ρ Q=>t (bQ ρ) fun d=>d.tJ=true/\Q ρ d
noncomputable def ZU (t:WE):WX:=fun ρ Q=>t (jY ρ) fun d=>Q ρ d
section
variable {X:Cx}
theorem px3 {e:Expr} {t:WE} (h:cD X e t):GB X e (aCI t):=imp h fun σ H Q aGV=>by
 obtain ⟨H₀,S,w,ρ,G,Q3,hl,st,ht,k⟩:=aGV
 exact ⟨S,bQ ρ,_,st.PM,st.all,ht,fun v H' d s' d' q'=>k w v H' ρ d (st.same s') (Dn.tJ q'.1 d') q'.2⟩
theorem aGW {e:Expr} {t:WE} (h:cD X e t):GB X e (ZU t):=imp h fun σ H Q aGX=>by
 obtain ⟨H₀,S,w,ρ,G,Q3,hl,st,ht,k⟩:=aGX
 exact ⟨_,jY ρ,_,st.ZH,st.rd,ht,fun v H' d s' d' q'=>k w v H' ρ d (st.same s') d' q'⟩
noncomputable def aCJ (t:WX):WS:=fun E ρ=>t ρ fun ρ' _=>E.nx ρ'
theorem aCK {e:Expr} {t:WX} {pos:Pos} (he:GB X e t) (hs:swapsWith e none pos.line X.env=pure false:=by rfl):GA X (.Expr e pos) (aCJ t):=qM (IP he hs) fun B σ H aGY=>by
 obtain ⟨H₀,S,w,ρ,G,E,hl,st,ht,ok⟩:=aGY
 exact ⟨H₀,S,w,ρ,G,_,hl,st,ht,fun w' v H' ρ' d st' d' q'=>ok.nx w' _ H' _ hl st' q'⟩
noncomputable def wM1 (i:Nat) (f:List D->D->(List D->D->Prop)->Prop) (t:WX):WX:=fun ρ Q=>(match ρ[i]? with | some (.ow (.lst _))=>True | _=>False)/\t ρ fun ρ' d=>match ρ'[i]? with
 | some (.ow (.lst ds))=>f ds d fun ds' r=>Q (ρ'.set i (.ow (.lst ds'))) r
 | _=>False
noncomputable def M3 (K:PySem.W.Frag) (r:V->List V->Hp->VK->Prop) (f:List D->D->(List D->D->Prop)->Prop):Prop:=∀ (S:Addr->Prop) (H:Hp) (p:Addr) (xs:List V) (ds:List D) (y:V) (d:D) (Q3:List D->D->Prop) (Q:VK),
 H p=some (.lst xs)->aR K S H ds xs->Dn K S H d y->f ds d Q3->(∀ ys ds' v d',aR K S H ds' ys->Dn K S H d' v->Q3 ds' d'->Q v (upd H p (.lst ys)))->r (.ref p) [y] H Q
theorem U0 {K:PySem.W.Frag} {n i:Nat} {r:V->List V->Hp->VK->Prop} {f:List D->D->(List D->D->Prop)->Prop} {t:WX} {σ:L2.St} {H:Hp} {Q:VK} (h3:M3 K r f) (h:JG K n (wM1 i f t) σ H Q) :
  tBM K "list" r (TV i) (IV (JG K n t) Y1) σ H Q:=by
 obtain ⟨H₀,S,w,ρ,G,Q3,hl,st,⟨h0,ht⟩,k⟩:=h
 split at h0
 ·rename_i ds e
  obtain ⟨a,b,c⟩:=st.own i _ e
  obtain ⟨xs,hp,dn⟩:=c
  refine ⟨_,a,.inl ⟨rfl,xs,fS.of hp⟩,H₀,S,w,ρ,G,_,hl,st,ht,fun w' v H' ρ' d st' d' q'=>?_⟩
  split at q'
  ·rename_i ds' e'
   obtain ⟨a',b',c'⟩:=st'.own i _ e'
   obtain ⟨xs',hp',dn'⟩:=c'
   have ew:w i=w' i:=by
    have z:=a.symm.trans a'
    have z1:=Option.some.inj (Option.some.inj z)
    injection z1
   rw [ew]
   refine h3 _ H' (w' i) xs' ds' v d _ Q hp' dn' d' q' fun ys ds2 v2 d2 NB dv2 q2=>?_
   have nS:¬ SO S w' ρ' (w' i):=fun ⟨_,z⟩=>z i _ e' rfl
   have F:Fits K (SO S w' ρ') (SO S w' ρ') H' (upd H' (w' i) (.lst ys)):=.upd (.inl ⟨_,hp'⟩) nS
   have so:∀ a,SO S w' ρ' a->SO S w' (ρ'.set i (.ow (.lst ds2))) a:=SO.mono fun j f hf=>by
    rcases get_set hf with ⟨hj,_,_⟩ | ⟨_,z⟩
    ·subst hj; exact ⟨_,e'⟩
    ·exact ⟨_,z⟩
   exact k w' v2 _ _ d2 (st'.write (d':=.lst ds2) e' ⟨ys,aS,aR.fits F _ _ NB⟩) (Dn.fits (F.trans (.mono so)) _ _ dv2) q2
  ·exact q'.elim
 ·exact h0.elim
theorem m1 {i:Nat} {x:Str} {id:String} {name:Str} {e:Expr} {p apos cpos:Pos} {r:V->List V->Hp->VK->Prop} {f:List D->D->(List D->D->Prop)->Prop} {t:WX} (slot:Slot "list" name id) (hty:typeOf (.builtin id)=pure (.type "method_descriptor")) (hm:MtR X id r) (h3:M3 X.K r f) (he:GB X e t)
  (hN:X.N[i]? = some x:=by rfl) (hv:FE X.env.scope x:=by first | exact Or.inl rfl | exact Or.inr (Or.inl rfl) | exact Or.inr (Or.inr rfl)) (hd:(x == ("__debug__" : Str))=false:=by decide) (hcd:(x == ("__classdict__" : Str))=false:=by decide)
  (hbase:attributeBase (.Name x p) name X.env (eval (.Name x p) X.env)=eval (.Name x p) X.env:=by rfl)
  (hfew:((backTo cpos (starEach [e] X.env)).all (fun x=>!x.1)&&(backToKw cpos (keywordEach [] X.env)).all (fun x=>x.1.isSome)
   && decide ([e].length+([]:List Keyword).length+(if ([]:List Keyword).isEmpty then 0 else 1)<30))=true:=by rfl)
  (hline:(apos.endLine == cpos.line)=true:=by rfl) (hs:starEach [e] X.env=(false,eval e X.env)::starEach [] X.env:=by rfl) :
  GB X (.Call (.Attribute (.Name x p) name apos) [e] [] cpos) (wM1 i f t) :=
 imp (IZ PySem.F.plainAttrs_list slot hty hm (AG hN hv hd hcd) (gO he kP hs) hbase hfew hline hs (by rfl)) fun _ _ _ h=>U0 h3 h
noncomputable def ZV:List D->D->(List D->D->Prop)->Prop:=fun ds d Q=>ds.length<sizeLine/\Q (ds++[d]) .non
theorem ZW {K:PySem.W.Frag}:M3 K I0 ZV:=by
 intro S H p xs ds y d Q3 Q hp dn dy hf k
 exact ⟨p,xs,y,rfl,rfl,hp,by rw [<- dn.len]; exact hf.1,k _ _ _ _ (dn.append (aR.one dy)) (by simp only [Dn]) hf.2⟩
noncomputable def ZX:List D->D->(List D->D->Prop)->Prop
 | ds,.int k,Q=>(-(2 ^ 63)<=k/\k<2 ^ 63)/\(match UI ds.length k with | some j=>(match ds[j]? with | some d=>Q (ds.eraseIdx j) d | none=>False) | none=>False)
 | _,_,_=>False
theorem ZY {K:PySem.W.Frag}:M3 K O2 ZX:=by
 intro S H p xs ds y d Q3 Q hp dn dy hf k
 cases d with
 | int i =>
  simp only [Dn] at dy
  subst dy
  obtain ⟨⟨h1,h2⟩,hf⟩:=hf
  split at hf
  ·rename_i j ej
   split at hf
   ·rename_i dd ed
    obtain ⟨v,ev,dv⟩:=dn.get ed
    obtain ⟨g1,_⟩:=IY ej
    exact ⟨p,xs,i,j,v,rfl,rfl,hp,h1,h2,by rw [<- dn.len]; exact g1,ev,k _ _ _ _ (dn.erase j) dv hf⟩
   ·exact hf.elim
  ·exact hf.elim
 | _=>exact hf.elim
section
variable {i:Nat} {x:Str} {e:Expr} {p apos cpos:Pos} {t:WX}
theorem aGZ (he:GB X e t) (hN:X.N[i]? = some x:=by rfl) (hv:FE X.env.scope x:=by first | exact Or.inl rfl | exact Or.inr (Or.inl rfl) | exact Or.inr (Or.inr rfl)) (hd:(x == ("__debug__" : Str))=false:=by decide) (hcd:(x == ("__classdict__" : Str))=false:=by decide)
  (hbase:attributeBase (.Name x p) "append" X.env (eval (.Name x p) X.env)=eval (.Name x p) X.env:=by rfl)
  (hfew:((backTo cpos (starEach [e] X.env)).all (fun x=>!x.1)&&(backToKw cpos (keywordEach [] X.env)).all (fun x=>x.1.isSome)
   && decide ([e].length+([]:List Keyword).length+(if ([]:List Keyword).isEmpty then 0 else 1)<30))=true:=by rfl)
  (hline:(apos.endLine == cpos.line)=true:=by rfl) (hs:starEach [e] X.env=(false,eval e X.env)::starEach [] X.env:=by rfl) :
  GB X (.Call (.Attribute (.Name x p) "append" apos) [e] [] cpos) (wM1 i ZV t):=m1 PySem.F.slot_list_append PySem.F.type_list_append yC ZW he hN hv hd hcd hbase hfew hline hs
theorem aG0 (he:GB X e t) (hN:X.N[i]? = some x:=by rfl) (hv:FE X.env.scope x:=by first | exact Or.inl rfl | exact Or.inr (Or.inl rfl) | exact Or.inr (Or.inr rfl)) (hd:(x == ("__debug__" : Str))=false:=by decide) (hcd:(x == ("__classdict__" : Str))=false:=by decide)
  (hbase:attributeBase (.Name x p) "pop" X.env (eval (.Name x p) X.env)=eval (.Name x p) X.env:=by rfl)
  (hfew:((backTo cpos (starEach [e] X.env)).all (fun x=>!x.1)&&(backToKw cpos (keywordEach [] X.env)).all (fun x=>x.1.isSome)
   && decide ([e].length+([]:List Keyword).length+(if ([]:List Keyword).isEmpty then 0 else 1)<30))=true:=by rfl)
  (hline:(apos.endLine == cpos.line)=true:=by rfl) (hs:starEach [e] X.env=(false,eval e X.env)::starEach [] X.env:=by rfl) :
  GB X (.Call (.Attribute (.Name x p) "pop" apos) [e] [] cpos) (wM1 i ZX t):=m1 PySem.F.slot_list_pop PySem.F.type_list_pop O5 ZY he hN hv hd hcd hbase hfew hline hs
end
end
structure Wlk (K:PySem.W.Frag) (J:It) (ds:List D) (G:List (D×V)):Prop where
 go:∀ (S:Addr->Prop) (H:Hp),(∀ a,H a=none->S a)->(∀ g∈G,Dn K S H g.1 g.2) -> ∀ (i:Nat) (d:D),ds[i]? = some d->J.go i H /\ ∀ x H',J.yld i H x H'->Same H H'/\Dn K S H' d x
 stop:∀ (S:Addr->Prop) (H:Hp),(∀ g∈G,Dn K S H g.1 g.2) -> ∀ i:Nat,ds.length=i->J.stop i H
noncomputable abbrev WI:=bN->(List D->Prop)->Prop
noncomputable def W0 (K:PySem.W.Frag) (t:WI):TI:=fun σ H R=>∃ (S:Addr->Prop) (ρ:bN) (Q3:List D->Prop),(∀ a,H a=none->S a)/\Sl K S H ρ σ/\t ρ Q3 /\
 ∀ J H' ds G,Same H H'->(∀ g∈G,Dn K S H' g.1 g.2)->Wlk K J ds G->Q3 ds->R J H'
noncomputable def W2 (X:Cx) (tg iter:Expr) (t:WI):Prop:=PI X tg iter (W0 X.K t)
section
variable {X:Cx} {tg:Expr}
theorem U1 {e:Expr} {t t':TI} (h:PI X tg e t) (f:∀ σ H R,t' σ H R->t σ H R):PI X tg e t':=fun pins s σ H R I q=>h pins s σ H R I (f σ H R q)
noncomputable def aCL (t:WE):WI:=fun ρ Q=>t ρ fun d=>match d with
 | .lst ds=>Q ds
 | .tup ds=>Q ds
 | _=>False
theorem P7 {K:PySem.W.Frag} {a:Addr} {ds:List D}:Wlk K (Itl K a) ds [(.lst ds,.ref a)] where
 go:=fun S H fc hg i d e=>by
  have h:=hg _ (List.mem_singleton.mpr rfl)
  simp only [Dn] at h
  obtain ⟨b,xs,eb,hb,sb,dn⟩:=h
  injection eb with eb
  subst eb
  obtain ⟨v,ev,dv⟩:=dn.get e
  refine ⟨⟨xs,v,fS.of hb,ev⟩,fun x H' y=>?_⟩
  obtain ⟨e1,y⟩:=y
  subst e1
  have ex:=y xs (fS.of hb)
  rw [ev] at ex
  cases ex
  exact ⟨Same.refl _,dv⟩
 stop:=fun S H hg i hi=>by
  have h:=hg _ (List.mem_singleton.mpr rfl)
  simp only [Dn] at h
  obtain ⟨b,xs,eb,hb,sb,dn⟩:=h
  injection eb with eb
  subst eb
  exact ⟨xs,fS.of hb,by rw [<- dn.len]; exact Nat.le_of_eq hi⟩
theorem U2 {K:PySem.W.Frag} {a:Addr} {ds:List D}:Wlk K (Itt K a) ds [(.tup ds,.ref a)] where
 go:=fun S H fc hg i d e=>by
  have h:=hg _ (List.mem_singleton.mpr rfl)
  simp only [Dn] at h
  obtain ⟨b,xs,eb,hb,dn⟩:=h
  injection eb with eb
  subst eb
  obtain ⟨v,ev,dv⟩:=dn.get e
  refine ⟨⟨xs,v,(fU.of hb),ev⟩,fun x H' y=>?_⟩
  obtain ⟨e1,y⟩:=y
  subst e1
  have ex:=y xs (fU.of hb)
  rw [ev] at ex
  cases ex
  exact ⟨Same.refl _,dv⟩
 stop:=fun S H hg i hi=>by
  have h:=hg _ (List.mem_singleton.mpr rfl)
  simp only [Dn] at h
  obtain ⟨b,xs,eb,hb,dn⟩:=h
  injection eb with eb
  subst eb
  exact ⟨xs,(fU.of hb),by rw [<- dn.len]; exact Nat.le_of_eq hi⟩
theorem ZZ {l:Expr} {tl:TE} (hl:PE X l tl):PI X tg l (fun σ H R=>tl σ H fun x H1=>∃ a,x=.ref a/\(((∃ xs,fS X.K H1 a xs)/\R (Itl X.K a) H1)\/((∃ xs,fU X.K H1 a xs)/\R (Itt X.K a) H1))):=by
 intro pins s σ H R I h
 refine eP (hl pins s σ H _ I h) fun v s1 aG1=>?_
 obtain ⟨x,H1,I1,r1,q1⟩:=aG1
 obtain ⟨a,e,q⟩:=q1
 subst e
 cases r1
 rcases q with ⟨⟨xs,hq⟩,q⟩ | ⟨⟨xs,hq⟩,q⟩
 ·obtain ⟨its,rv,p,hz⟩:=I1.list hq
  refine wpAny_pyIter_list p.isList ?_
  refine ⟨s1.heap.objs.size,[s1.heap.objs.size],_,_,H1,rfl,I1.kept (t':=s1.toks) fun b o e=>Heap.get?_push_of_some _ e,KS a _,⟨_,Heap.get?_push_size _ rfl,rfl,rfl⟩,fun b hb=>?_,q⟩
  have e:b=s1.heap.objs.size:=by simpa using hb
  subst e
  exact I1.FG (Nat.le_refl _) (I1.hok.fresh (Nat.le_refl _))
 ·obtain ⟨its,rv,p,hz⟩:=I1.tuple hq
  refine wpAny_pyIter_tuple (show s1.heap.IsTuple a its.toArray from p) ?_
  refine ⟨s1.heap.objs.size,[s1.heap.objs.size],_,_,H1,rfl,I1.kept (t':=s1.toks) fun b o e=>Heap.get?_push_of_some _ e,FH a _,⟨_,Heap.get?_push_size _ rfl,rfl,rfl⟩,fun b hb=>?_,q⟩
  have e:b=s1.heap.objs.size:=by simpa using hb
  subst e
  exact I1.FG (Nat.le_refl _) (I1.hok.fresh (Nat.le_refl _))
theorem aCM {l:Expr} {t:WE} (h:cD X l t):W2 X tg l (aCL t):=U1 (ZZ h) fun σ H R aG2=>by
 obtain ⟨S,ρ,Q3,fc,sl,ht,k⟩:=aG2
 refine ⟨S,ρ,_,fc,sl,ht,fun v H1 d s1 d1 q1=>?_⟩
 cases d with
 | lst ds =>
  have d1':=d1
  simp only [Dn] at d1
  obtain ⟨a,xs,rfl,ha,sa,da⟩:=d1
  exact ⟨a,rfl,.inl ⟨⟨xs,fS.of ha⟩,k _ H1 ds [(.lst ds,.ref a)] s1 (fun g hg=>by cases List.mem_singleton.mp hg; exact d1') P7 q1⟩⟩
 | tup ds =>
  have d1':=d1
  simp only [Dn] at d1
  obtain ⟨a,xs,rfl,ha,da⟩:=d1
  exact ⟨a,rfl,.inr ⟨⟨xs,(fU.of ha)⟩,k _ H1 ds [(.tup ds,.ref a)] s1 (fun g hg=>by cases List.mem_singleton.mp hg; exact d1') U2 q1⟩⟩
 | _=>exact q1.elim
noncomputable def sQ (lo:Int) (n:Nat):List Int:=(List.range n).map fun k:Nat=>lo+(k:Int)
theorem rV (lo:Int) (n:Nat):(sQ lo n).length=n:=by simp [sQ]
theorem P8 {lo:Int} {n i:Nat}:(sQ lo n)[i]? = if i<n then some (lo+(i:Int)) else none:=by
 unfold sQ
 rw [List.getElem?_map]
 by_cases h:i<n
 ·rw [if_pos h,List.getElem?_range h]; rfl
 ·rw [if_neg h,List.getElem?_eq_none (by simpa using h)]; rfl
theorem LD {K:PySem.W.Frag} {lo:Int} {n:Nat}:Wlk K (Itr lo n) ((sQ lo n).map D.int) [] where
 go:=fun S H fc hg i d e=>by
  rw [List.getElem?_map,P8] at e
  by_cases h:i<n
  ·rw [if_pos h] at e
   cases e
   refine ⟨h,fun x H' y=>?_⟩
   obtain ⟨e1,e2⟩:=y
   subst e1
   exact ⟨Same.refl _,by simp only [Dn]; exact e2⟩
  ·rw [if_neg h] at e; cases e
 stop:=fun S H hg i hi=>by rw [List.length_map,rV] at hi; exact Nat.le_of_eq hi
noncomputable def Z0 (t:WA):WI:=fun ρ Q=>t ρ fun ds=>match ds with
 | [.int j]=>(-(2 ^ 62)<=j/\j<2 ^ 62)/\Q ((sQ 0 j.toNat).map D.int)
 | _=>False
theorem Z1 {a:Expr} {t:WA} {p pos:Pos} (hm:X.mg "range" = none) (ha:BQ X [a] t) (hg:Gl X "range" := by rfl) (hs:starEach [a] X.env=[(false,eval a X.env)]:=by rfl):W2 X tg (.Call (.Name "range" p) [a] [] pos) (Z0 t) :=
 U1 (KU hg hm ha hs) fun σ H R aG3=>by
  obtain ⟨S,ρ,Q3,fc,sl,ht,k⟩:=aG3
  refine ⟨S,ρ,_,fc,sl,ht,fun vs H1 ds s1 d1 q1=>?_⟩
  split at q1
  ·rename_i j
   obtain ⟨v,r,rfl,h1,h2⟩:=d1.bR
   simp only [aR] at h2
   subst h2
   simp only [Dn] at h1
   subst h1
   exact ⟨j,rfl,q1.1.1,q1.1.2,k _ H1 _ [] s1 (fun g hg=>nomatch hg) LD q1.2⟩
  ·exact q1.elim
noncomputable abbrev WG:=D->aT->(aT->Prop)->Prop
noncomputable def aCN (K:PySem.W.Frag) (n:Nat) (g:WG):TG:=fun v σ H Q=>∃ (H₀:Hp) (S:Addr->Prop) (w:Nat->Addr) (ρ:aT) (G:List (D×V)) (d:D) (Q3:aT->Prop),σ.length=n/\ST K H₀ S w σ H ρ G/\Dn K (SO S w ρ) H d v/\g d ρ Q3 /\
 ∀ σ' H' ρ',σ'.length=n->ST K H₀ S w σ' H' ρ' G->Q3 ρ'->Q σ' H'
noncomputable def W3 (X:Cx) (tg:Expr) (g:WG):Prop:=PG X tg (aCN X.K X.N.length g)
theorem LF {e:Expr} {t t':TG} (h:PG X e t) (f:∀ v σ H Q,t' v σ H Q->t v σ H Q):PG X e t':=fun pins s σ H v u Q I r q=>h pins s σ H v u Q I r (f v σ H Q q)
noncomputable def gN (i:Nat):WG:=fun d ρ Q=>Q (ρ.set i (.ro d))
theorem aCO {i:Nat} {x:Str} {pos:Pos} (hN:X.N.Nodup) (hi:X.N[i]? = some x:=by rfl) (hx:Loc X.env.scope x:=by first | exact .inl rfl | exact .inr rfl) (hf:X.fn x=true\/X.env.scope.names.lookup x=some .local:=by first | exact .inl rfl | exact .inr rfl):W3 X (.Name x pos) (gN i) :=
 LF (lO hN hi hx hf) fun v σ H Q aG4=>by obtain ⟨H₀,S,w,ρ,G,d,Q3,hl,st,dn,hg,k⟩:=aG4; exact k _ H _ (by rw [List.length_set]; exact hl) (st.uV (by rw [hl]; exact kW hi) dn) hg
noncomputable def g2 (i j:Nat):WG:=fun d ρ Q=>match d with
 | .tup [d1,d2]=>Q ((ρ.set i (.ro d1)).set j (.ro d2))
 | _=>False
theorem aCP {i j:Nat} {x y:Str} {k:Nat} {pos px py:Pos} (hc:X.calm=true) (hN:X.N.Nodup) (hi:X.N[i]? = some x:=by rfl) (hj:X.N[j]? = some y:=by rfl) (hx:Loc X.env.scope x:=by first | exact .inl rfl | exact .inr rfl) (hy:Loc X.env.scope y:=by first | exact .inl rfl | exact .inr rfl)
  (hf:X.fn x=true\/X.env.scope.names.lookup x=some .local:=by first | exact .inl rfl | exact .inr rfl) (hf2:X.fn y=true\/X.env.scope.names.lookup y=some .local:=by first | exact .inl rfl | exact .inr rfl)
  (hn:(assignEach [.Name x px,.Name y py] X.env).length=2:=by rfl) (hst:(assignEach [.Name x px,.Name y py] X.env).findIdx? (·.1)=none:=by rfl)
  (hs1:(assignEach [.Name x px,.Name y py] X.env).map (·.2)=assign (.Name x px) X.env::(assignEach [.Name y py] X.env).map (·.2):=by rfl) (hs2:(assignEach [.Name y py] X.env).map (·.2)=assign (.Name y py) X.env::(assignEach [] X.env).map (·.2):=by rfl) :
  W3 X (.Tuple [.Name x px,.Name y py] k pos) (g2 i j) :=
 LF (OR (n:=2) hc (oK (lO hN hi hx hf) (oK (lO hN hj hy hf2) IQ hs2) hs1) hn hst) fun v σ H Q aG5=>by
  obtain ⟨H₀,S,w,ρ,G,d,Q3,hl,st,dn,hg,k⟩:=aG5
  unfold g2 at hg
  split at hg
  ·rename_i d1 d2
   simp only [Dn] at dn
   obtain ⟨a,xs,rfl,ha,da⟩:=dn
   obtain ⟨v1,r1,rfl,h1,h2⟩:=da.bR
   obtain ⟨v2,r2,rfl,h3,h4⟩:=h2.bR
   simp only [aR] at h4
   subst h4
   refine ⟨a,_,rfl,(fU.of ha),rfl,v1,[v2],rfl,v2,[],rfl,rfl,?_⟩
   have st1:=st.uV (i:=i) (by rw [hl]; exact kW hi) h1
   have m:∀ a,SO S w ρ a->SO S w (ρ.set i (.ro d1)) a:=SO.mono fun n f hf=>by
    rcases get_set hf with ⟨_,z,_⟩ | ⟨_,z⟩
    ·cases z
    ·exact ⟨_,z⟩
   have st2:=st1.uV (i:=j) (d:=d2) (v:=v2) (by rw [List.length_set,hl]; exact kW hj) (Dn.fits (.mono m) _ _ h3)
   exact k _ H _ (by rw [List.length_set,List.length_set]; exact hl) st2 hg
  ·exact hg.elim
noncomputable def aG6 (ti:WI) (g:WG) (tb:WS):WS:=fun E ρ=>ti (jY ρ) fun ds=>∃ Inv:Nat->aT->Prop,Inv 0 ρ /\
 (∀ (i:Nat) (d:D) (ρ':aT),ds[i]? = some d->Inv i ρ'->g d ρ' fun ρ2=>tb { E with nx:=Inv (i+1),ct:=Inv (i+1),bk:=E.nx } ρ2) /\ ∀ ρ',Inv ds.length ρ'->E.nx ρ'
theorem aG7 {iter:Expr} {body:List Stmt} {ti:WI} {g:WG} {tb:WS} {pos:Pos} (hc:X.calm=true) (hp:PassesOwn (model X.prog X.w) X.A X.env X.xe) (hi:W2 X tg iter ti) (hg:W3 X tg g) (hb:u1 X body tb)
  (hs:∀ x,foldedSetIterable iter X.env x=pure x:=by intro _; rfl):GA X (.For tg iter body [] pos) (aG6 ti g tb):=qM (YR hp hc hi hg hb hs) fun B σ H aG8=>by
 obtain ⟨H₀,S,w,ρ,G,E,hl,st,ht,ok⟩:=aG8
 refine ⟨_,jY ρ,_,st.ZH,st.rd,ht,fun J H1 ds G1 s1 hg1 wk q1=>?_⟩
 obtain ⟨Iv,h0,turn,fin⟩:=q1
 have stG:∀ {w σ H ρ},ST X.K H₀ S w σ H ρ (G1++G)->ST X.K H₀ S w σ H ρ G:=fun st=>st.ghost fun g hg=>st.gh g (List.mem_append_right _ hg)
 refine ⟨fun i m σ H=>m=ds.length - i/\i<=ds.length/\σ.length=X.N.length /\ ∃ w ρ,ST X.K H₀ S w σ H ρ (G1++G)/\Iv i ρ,
  ⟨_,rfl,Nat.zero_le _,hl,w,ρ,(st.same s1).ghost fun g hg=>(List.mem_append.mp hg).elim (fun z=>hg1 g z) fun z=>(st.same s1).gh g z,h0⟩,?_⟩
 rintro i m σ2 H2 ⟨rfl,hi2,hl2,w2,ρ2,st2,iv⟩
 by_cases hlt:i<ds.length
 ·refine .inr ?_
  obtain ⟨g1,g2⟩:=wk.go _ H2 st2.ZH (fun g hg=>st2.gh g (List.mem_append_left _ hg)) i ds[i] (by simp [hlt])
  refine ⟨g1,fun σ' H'=>σ'.length=X.N.length /\ ∃ w ρ,ST X.K H₀ S w σ' H' ρ (G1++G)/\Iv (i+1) ρ,fun σ' H' ⟨hl',w',ρ',st',iv'⟩=>⟨ds.length - (i+1),by omega,rfl,hlt,hl',w',ρ',st',iv'⟩,fun x H' y=>?_⟩
  obtain ⟨s3,dx⟩:=g2 x H' y
  refine ⟨H₀,S,w2,ρ2,G1++G,ds[i],_,hl2,st2.same s3,dx,turn i ds[i] ρ2 (by simp [hlt]) iv,fun σ4 H4 ρ4 hl4 st4 q4=>?_⟩
  exact ⟨H₀,S,w2,ρ4,G1++G,_,hl4,st4,q4,⟨fun w' σ' H' ρ' hl' st' q=>⟨hl',w',ρ',st',q⟩,fun v H' d s' d' q=>ok.rt v H' d s' d' q,fun w' σ' H' ρ' hl' st' q=>ok.nx w' σ' H' ρ' hl' (stG st') q,fun w' σ' H' ρ' hl' st' q=>⟨hl',w',ρ',st',q⟩,ok.ex⟩⟩
 ·have e:i=ds.length:=by omega
  subst e
  exact .inl ⟨wk.stop _ H2 (fun g hg=>st2.gh g (List.mem_append_left _ hg)) _ rfl,ok.nx w2 σ2 H2 ρ2 hl2 (stG st2) (fin ρ2 iv)⟩
end
theorem GC {scope:Scope} {env:Env} (h:∀ x∈scope.names,x.2=.free -> ∃ c,env.cells.lookup x.1=some c) :
  ∃ cl,closureFor scope env=pure cl/\(∀ x∈scope.names,x.2=.free->cl.lookup x.1=env.cells.lookup x.1) /\ ∀ x c,cl.lookup x=some c->env.cells.lookup x=some c:=by
 have go:∀ (l:List (Str×NameKind)) (acc:List (Str×Addr)),(∀ x∈l,x.2=.free -> ∃ c,env.cells.lookup x.1=some c)->(∀ x c,acc.lookup x=some c->env.cells.lookup x=some c) ->
   ∃ cl,(forIn l acc fun (x:Str×NameKind) (cs:List (Str×Addr))=>(match x with | (name,kind)=>if (kind == NameKind.free)=true then (do let c <- cellOf env name; pure (ForInStep.yield ((name,c)::cs))) else pure (ForInStep.yield cs):Sem (ForInStep (List (Str×Addr)))))=pure cl /\
    (∀ x c,acc.lookup x=some c->cl.lookup x=some c)/\(∀ x∈l,x.2=.free->cl.lookup x.1=env.cells.lookup x.1) /\ ∀ x c,cl.lookup x=some c->env.cells.lookup x=some c:=by
  intro l
  induction l with
  | nil=>intro acc _ ha; exact ⟨acc,by rw [List.forIn_nil],fun _ _ z=>z,fun x hx=>(nomatch hx),ha⟩
  | cons y l ih =>
   intro acc hf ha
   by_cases hk:y.2=.free
   ·obtain ⟨c,hc⟩:=hf y List.mem_cons_self hk
    have ha':∀ x c',((y.1,c)::acc).lookup x=some c'->env.cells.lookup x=some c':=fun x c' hx=>by
     rw [List.lookup_cons] at hx
     split at hx
     ·rename_i e
      cases hx
      rw [eq_of_beq e]; exact hc
     ·exact ha x c' hx
    obtain ⟨cl,e,h1,h2,h3⟩:=ih ((y.1,c)::acc) (fun x hx=>hf x (List.mem_cons_of_mem _ hx)) ha'
    refine ⟨cl,?_,fun x c' hx=>?_,fun x hx hfx=>?_,h3⟩
    ·rw [List.forIn_cons,<- e]
     have e1:(y.2 == NameKind.free)=true:=by rw [hk]; rfl
     have e2:cellOf env y.1=pure c:=by unfold cellOf; rw [hc]
     obtain ⟨yn,yk⟩:=y
     dsimp only at e1 e2 ⊢
     rw [if_pos e1,e2]
     rfl
    ·by_cases hxy:x=y.1
     ·subst hxy
      have e3:((y.1,c)::acc).lookup y.1=some c:=by simp
      have e4:=ha _ _ hx
      rw [hc] at e4
      cases e4
      exact h1 _ _ e3
     ·refine h1 x c' ?_
      rw [List.lookup_cons]
      have:(x == y.1)=false:=by simpa using hxy
      rw [this]; exact hx
    ·rcases List.mem_cons.mp hx with rfl | hx
     ·rw [hc]; exact h1 _ _ (by simp)
     ·exact h2 x hx hfx
   ·obtain ⟨cl,e,h1,h2,h3⟩:=ih acc (fun x hx=>hf x (List.mem_cons_of_mem _ hx)) ha
    refine ⟨cl,?_,h1,fun x hx hfx=>?_,h3⟩
    ·rw [List.forIn_cons,<- e]
     have e1:¬ (y.2 == NameKind.free)=true:=by simpa using hk
     obtain ⟨yn,yk⟩:=y
     dsimp only at e1 ⊢
     rw [if_neg e1]
     rfl
    ·rcases List.mem_cons.mp hx with rfl | hx
     ·exact absurd hfx hk
     ·exact h2 x hx hfx
 obtain ⟨cl,e,_,h2,h3⟩:=go scope.names [] h (fun x c z=>by simp at z)
 refine ⟨cl,?_,h2,h3⟩
 have e':=congrArg (fun t=>t >>= fun r=>(pure r:Sem (List (Str×Addr)))) e
 exact e'
theorem gF:∀ (l:List (Str×NameKind)) (n:Nat) (own cl:List (Str×Addr)),cellsFrom n l (own++cl)=cellsFrom n l own++cl
 | [],_,_,_=>rfl
 | (x,k)::r,n,own,cl=>by
  unfold cellsFrom
  split
  ·exact gF r (n+1) ((x,n)::own) cl
  ·exact gF r n own cl
theorem iO:∀ (l:List (Str×NameKind)) (n:Nat) (own:List (Str×Addr)) (p:Str×Addr),p∈cellsFrom n l own->p∈own\/(p.1,NameKind.cell)∈l
 | [],_,_,_,h=>.inl h
 | (x,k)::r,n,own,p,h=>by
  unfold cellsFrom at h
  split at h
  ·rename_i hk
   rcases iO r _ _ p h with h | h
   ·rcases List.mem_cons.1 h with rfl | h
    ·exact .inr (by rw [<- eq_of_beq hk]; exact List.mem_cons_self)
    ·exact .inl h
   ·exact .inr (List.mem_cons_of_mem _ h)
  ·rcases iO r _ _ p h with h | h
   ·exact .inl h
   ·exact .inr (List.mem_cons_of_mem _ h)
theorem jE:∀ (l:List (Str×NameKind)) (n:Nat) (own:List (Str×Addr)) (x:Str),((∃ c,own.lookup x=some c)\/(x,NameKind.cell)∈l) -> ∃ c,(cellsFrom n l own).lookup x=some c
 | [],_,_,_,h=>h.elim id fun z=>(nomatch z)
 | (y,k)::r,n,own,x,h=>by
  unfold cellsFrom
  split
  ·refine jE r _ _ x ?_
   by_cases e:x=y
   ·exact .inl ⟨n,by rw [e,List.lookup_cons,beq_self_eq_true]⟩
   ·rcases h with ⟨c,h⟩ | h
    ·exact .inl ⟨c,by rw [List.lookup_cons,beq_eq_false_iff_ne.mpr e]; exact h⟩
    ·rcases List.mem_cons.mp h with z | z
     ·exact absurd (Prod.mk.inj z).1 e
     ·exact .inr z
  ·rename_i hk
   refine jE r _ _ x (h.imp_right fun z=>?_)
   rcases List.mem_cons.mp z with z | z
   ·rw [<- (Prod.mk.inj z).2] at hk; exact absurd rfl hk
   ·exact z
theorem LG {M:Model} {A:Around} {E:Value->Shared->Prop} {s:Shared} {sc:Scope} {g:Addr} {cl:List (Str×Addr)} {q:Str} {f:Option Addr} {code:Value} {env:Env} {bl:Addr} {Q:Env->Shared->Prop}
  (h:∀ h4:Heap,h4.Ns s.heap.objs.size (fun _=>none)->(∀ b o,s.heap.get? b=some o->h4.get? b=some o)->CellsOk h4 (s.heap.objs.size+1) (cellsFrom (s.heap.objs.size+1) sc.names []) ->
   Q (newEnv sc s.heap.objs.size g (cellsFrom (s.heap.objs.size+1) sc.names cl) q f code (some env) bl) { s with heap:=h4 }) :
  wpAny M A (newFunctionEnv sc g cl [] q f code (some env) bl) Q E s:=by
 unfold newFunctionEnv
 refine wpAny_bind (wpAny_alloc (wpAny_bind (wpAny_layCells _ (fun x k c=>by cases e:k == NameKind.cell<;>simp [e]) _ _ _ _ ?_)))
 have hz:∀ o:Obj,(s.heap.push o).objs.size=s.heap.objs.size+1:=fun o=>Heap.size_push ..
 have ok:=fun o=>cellsFrom_ok sc.names (s.heap.push o) (s.heap.objs.size+1) [] ⟨fun _ _ z=>(nomatch z),.nil⟩ (by rw [hz]; exact Nat.le_refl _)
 simp only [hz] at ok ⊢
 rw [List.forIn_nil]
 exact wpAny_bind (wpAny_pure (wpAny_pure (h _ ((Heap.Ns.new s.heap _).keeps (pushCells_keeps _ _)) (fun b o e=>pushCells_keeps _ _ b o (Heap.get?_push_of_some _ e)) (ok _))))
noncomputable def blk (X:Cx) (N:List Str) (sc:Scope) (cl:List (Str×Addr)) (C:Addr) (pn:List (Addr×Obj)) (ex:List Addr) (s₀:Shared) (H₀:Hp):Cx :=
 { X with N:=N,s₀:=s₀,H₀:=H₀,env:=compEnvC sc cl C X.env,outer:=X.stack,stack:=X.stack,ex:=ex,fn:=fun x=>sc.names.lookup x == some NameKind.cell,pn:=pn,xe:=fun _ _=>False }
noncomputable def CU (nl:Nat) (fr:List Nat) (σ:L2.St):L2.St:=List.replicate nl none++fr.map fun j=>(σ[j]?).join
structure JH (X:Cx) (ls fs:List Str) (fr:List Nat) (sc:Scope):Prop where
 kind:sc.kind=.function
 nd:(ls++fs).Nodup
 uniq:∀ x∈sc.names,sc.names.lookup x.1=some x.2
 free:∀ x∈sc.names,x.2=.free->X.env.kindOf x.1=some .cell\/X.env.kindOf x.1=some .free
 slot:∀ (k:Nat) (x:Str),fs[k]? = some x -> ∃ j,fr[k]? = some j/\X.N[j]? = some x/\(x,NameKind.free)∈sc.names/\sc.names.lookup x=some .free
 FZ:fr.length=fs.length
section
variable {X:Cx}
theorem rW (t:Str->NameKind->NameKind) (x:Str):∀ l:List (Str×NameKind),(l.map fun p=>(p.1,t p.1 p.2)).lookup x=(l.lookup x).map (t x)
 | []=>rfl
 | (n,k)::r=>by
  rw [List.map_cons,List.lookup_cons,List.lookup_cons]
  by_cases hx:(x == n)=true
  ·rw [hx,eq_of_beq hx]; rfl
  ·rw [Bool.not_eq_true] at hx
   rw [hx]
   exact rW t x r
theorem u4 {sc:Scope} {env:Env} {x:Str} {l:List (Str×NameKind)}:(l.map fun (n,k)=>if (k == NameKind.free&&env.scope.kind == .function&&env.kindOf n == some .cell) then (n,NameKind.cell) else (n,k)).lookup x =
  (l.lookup x).map fun k=>if (k == NameKind.free&&env.scope.kind == .function&&env.kindOf x == some .cell) then NameKind.cell else k:=by
 rw [<- rW (fun y k=>if (k == NameKind.free&&env.scope.kind == .function&&env.kindOf y == some .cell) then NameKind.cell else k) x l]
 refine congrArg (List.lookup x) (List.map_congr_left fun p _=>?_)
 dsimp only
 split<;>rfl
theorem ne_size {b c:Addr} {h:Heap} {o:Obj} (e:h.get? b=some o) (hc:c=h.objs.size):b≠c:=fun z=>Nat.lt_irrefl _ (by have q:=Heap.lt_size e; rw [z,hc] at q; exact q)
theorem CV {b c:Addr} {n:Nat} (h:b<n) (hc:n<=c):b≠c:=fun z=>Nat.lt_irrefl c (Nat.lt_of_lt_of_le (z▸h) hc)
theorem U3 {ls fs:List Str} {fr:List Nat} {sc:Scope} {cl:List (Str×Addr)} {C:Addr} {pins:List (Addr×Obj)} {ex:List Addr} {σ:L2.St} {H:Hp} {s s4:Shared} (B:JH X ls fs fr sc) (I:Inv X pins σ H s)
  (hcl:∀ x∈sc.names,x.2=.free->cl.lookup x.1=X.env.cells.lookup x.1) (A3:∀ x c,cl.lookup x=some c->X.env.cells.lookup x=some c\/(C<c/\s4.heap.IsCell c none)) (aCQ:∀ x∈sc.names,x.2=.cell -> ∃ c,cl.lookup x.1=some c/\C<c)
  (hinj:∀ x y c,cl.lookup x=some c->cl.lookup y=some c->x=y) (hex:∀ b∈ex,lY X pins H b/\b<s.heap.objs.size)
  (hC:C=s.heap.objs.size) {m:Str->Option Value} (hn:s4.heap.Ns C m) (hk:∀ b o,s.heap.get? b=some o->s4.heap.get? b=some o) (ho:s4.os=s.os) (hg:s4.gens=s.gens) :
  Inv (blk X (ls++fs) sc cl C (X.pn++pins) ex s H) [] (CU ls.length fr σ) H s4:=by
 have ltC:∀ {b:Addr} {o:Obj},s.heap.get? b=some o->b≠C:=fun e=>ne_size e hC
 have aKk:∀ x c,cl.lookup x=some c->c≠C:=fun x c e=>by
  rcases A3 x c e with e | ⟨e,_⟩
  ·obtain ⟨v,o,ho,_⟩:=I.cell x c e
   exact ltC ho
  ·exact Nat.ne_of_gt e
 have kOf:∀ x,(compEnvC sc cl C X.env).kindOf x=(sc.names.lookup x).map fun k=>if (k == NameKind.free&&X.env.scope.kind == .function&&X.env.kindOf x == some .cell) then NameKind.cell else k:=fun x=>u4 (sc:=sc)
 have okX:(blk X (ls++fs) sc cl C (X.pn++pins) ex s H).Ok:=by
  refine ⟨I.ok.mod,B.kind,I.ok.glob,I.ok.blt,(by show s.heap.objs.size<=C; rw [hC]; exact Nat.le_refl _),hinj,fun x hx=>?_,fun x c hf hl=>?_,I.ok.hd,I.ok.frames,.inl rfl,fun b hb=>?_,fun b o e=>I.bs b o e,Nat.le_trans I.ok.TR I.sz,fun b o e hb=>?_,fun b hb=>?_,I.stack,I.AE,I.tab⟩
  ·-- a cell or free name of the block
   have hx':∃ k,sc.names.lookup x=some k/\((if (k == NameKind.free&&X.env.scope.kind == .function&&X.env.kindOf x == some .cell) then NameKind.cell else k)=.cell\/(if (k == NameKind.free&&X.env.scope.kind == .function&&X.env.kindOf x == some .cell) then NameKind.cell else k)=.free):=by
    have hx:(compEnvC sc cl C X.env).kindOf x=some .cell\/(compEnvC sc cl C X.env).kindOf x=some .free:=hx
    rw [kOf] at hx
    cases e:sc.names.lookup x with
    | none=>rw [e] at hx; rcases hx with hx | hx<;>cases hx
    | some k=>rw [e] at hx; exact ⟨k,rfl,hx.imp (fun z=>Option.some.inj z) fun z=>Option.some.inj z⟩
   obtain ⟨k,e,hk'⟩:=hx'
   have hm:=PySem.mem_of_lookup e
   by_cases kf:k=.free
   ·subst kf
    have q:=hcl _ hm rfl
    obtain ⟨c,hc⟩:=I.ok.has x (B.free _ hm rfl)
    exact ⟨c,q.trans hc⟩
   ·have e2:(k == NameKind.free)=false:=by simpa using kf
    rw [e2] at hk'
    simp only [Bool.false_and,Bool.false_eq_true,if_false] at hk'
    rcases hk' with z | z
    ·obtain ⟨c,hc,_⟩:=aCQ _ hm z
     exact ⟨c,hc⟩
    ·exact absurd z kf
  ·-- an own cell is new
   obtain ⟨c',hc',hlt⟩:=aCQ _ (PySem.mem_of_lookup (eq_of_beq hf)) rfl
   have hc':cl.lookup x=some c':=hc'
   have hl:cl.lookup x=some c:=hl
   rw [hl] at hc'
   cases hc'
   rw [hC] at hlt
   exact Nat.le_of_lt hlt
  ·refine ⟨CV (hex b hb).2 (Nat.le_of_eq hC.symm),fun x c e=>?_⟩
   rcases A3 x c e with e | ⟨e,_⟩
   ·exact (hex b hb).1.2.2.2.2.1 x c e
   ·exact Ne.symm (CV (hex b hb).2 (by rw [<- hC]; exact Nat.le_of_lt e))
  ·obtain ⟨⟨_,_,_,f3,_,_⟩,_⟩:=hex b hb
   rcases f3 with f3 | f3
   ·exact I.ok.OO b o e f3
   ·exact absurd (Nat.lt_of_lt_of_le (Heap.lt_size e) (Nat.le_trans I.ok.TR f3)) (Nat.lt_irrefl _)
  ·intro z
   obtain ⟨⟨_,f1,f2,_,_,_⟩,_⟩:=hex b hb
   rcases List.mem_cons.mp (I.nJ b z) with z | z
   ·exact f1 z
   ·exact f2 z
 refine ⟨okX,ho,by rw [hg]; exact I.bare,Un.kept hk,⟨m,hn,fun i x v h1 h2 h3=>?_⟩,fun x c e=>?_,?_,fun x c e=>?_,fun p hp=>?_,I.hok.kept hk,?_⟩
 ·-- a name with a value is one from around
  have hi:¬ i<ls.length:=fun hi=>by
   unfold CU at h2
   rw [List.getElem?_append_left (by simpa using hi),List.getElem?_replicate,if_pos hi] at h2
   cases h2
  have e1:fs[i - ls.length]? = some x:=by
   have h1:(ls++fs)[i]? = some x:=h1
   rw [List.getElem?_append_right (by omega)] at h1
   exact h1
  obtain ⟨j,ej,eN,hm,hlk⟩:=B.slot _ _ e1
  have e2:(σ[j]?).join=some v:=by
   unfold CU at h2
   rw [List.getElem?_append_right (by simpa using hi),List.getElem?_map,List.length_replicate,ej] at h2
   exact Option.some.inj h2
  have e3:σ[j]? = some (some v):=by
   cases q:σ[j]? with
   | none=>rw [q] at e2; cases e2
   | some o=>rw [q] at e2; rw [show o=some v from e2]
  have hfr:=B.free _ hm rfl
  have vis:FE X.env.scope x:=.inr hfr
  obtain ⟨mm,hnm,hl⟩:=I.loc
  obtain ⟨u,r,l⟩:=hl j x v eN e3 vis
  refine ⟨u,r,?_⟩
  rcases l with ⟨k1,_⟩ | ⟨k1,c,ec,zc⟩
  ·have k1:X.env.kindOf x=some .local:=k1
   rcases hfr with z | z<;>rw [k1] at z<;>cases z
  ·refine .inr ⟨?_,c,(hcl _ hm rfl).trans ec,?_⟩
   ·show (compEnvC sc cl C X.env).kindOf x=some .cell\/(compEnvC sc cl C X.env).kindOf x=some .free
    rw [kOf,hlk]
    dsimp only [Option.map]
    split
    ·exact .inl rfl
    ·exact .inr rfl
   ·obtain ⟨oc,hoc,hd⟩:=zc
    exact ⟨oc,hk _ _ hoc,hd⟩
 ·rcases A3 x c e with e | ⟨_,e⟩
  ·obtain ⟨v,oc,hoc,hd⟩:=I.cell x c e
   exact ⟨v,oc,hk _ _ hoc,hd⟩
  ·exact ⟨none,e⟩
 ·show H C=none
  rw [hC]; exact I.hok.fresh (Nat.le_refl _)
 ·rcases A3 x c e with e | ⟨e,_⟩
  ·exact I.jK x c e
  ·exact I.hok.fresh (by rw [<- hC]; exact Nat.le_of_lt e)
 ·have hp:p∈(X.pn++pins)++[]:=hp
  rw [List.append_nil] at hp
  obtain ⟨e,n,ne,nf,d⟩:=I.pin p hp
  refine ⟨hk _ _ e,n,ltC e,fun z=>?_,d⟩
  rcases List.mem_cons.mp (I.nJ _ z) with z | z
  ·exact ne z
  ·exact nf z
 ·show (CU ls.length fr σ).length=(ls++fs).length
  unfold CU
  rw [List.length_append,List.length_append,List.length_replicate,List.length_map,B.FZ]
theorem P9 {ls fs:List Str} {sc:Scope} {cl:List (Str×Addr)} {C:Addr} {pins IM:List (Addr×Obj)} {ex:List Addr} {σ σ':L2.St} {H H':Hp} {s s':Shared} {h':Heap} (I:Inv X pins σ H s)
  (J:Inv (blk X (ls++fs) sc cl C (X.pn++pins) ex s H) IM σ' H' s') (hex:∀ b∈ex,lY X pins H b) (hC:C=s.heap.objs.size) (hs:Heap.SameBut C s'.heap h'):Inv X pins σ H' { s' with heap:=h' }:=by
 have ltC:∀ {b:Addr} {o:Obj},s.heap.get? b=some o->b≠C:=fun e=>ne_size e hC
 have fr:H' C=none:=J.free
 have un:Un (frs X.stack) ex H H' s.heap s'.heap:=J.base
 refine I.call' (s':={ s' with heap:=h' }) (ch:=ex) J.os ⟨fun b o e n hb hx=>(hs.2 b (ltC e)).trans (un.keep b o e n hb hx),fun b o e n hb hx=>?_,un.free,fun b o e hx=>?_,un.tups,un.oI,un.nI⟩ ?_ J.bare fun b hb=>?_
 ·obtain ⟨sl,q⟩:=un.slot b o e n hb hx
  exact ⟨sl,(hs.2 b (ltC e)).trans q⟩
 ·obtain ⟨o',q⟩:=un.there b o e hx
  exact ⟨o',(hs.2 b (ltC e)).trans q⟩
 ·intro b ob e
  refine (J.hok b ob e).stay (fun c u hc q=>(hs.2 c ?_).trans q) (fun _ q=>q) fun _ _ q=>q
  intro z
  rcases hc with hc | hc
  ·rw [z] at hc; rw [<- hc,fr] at e; cases e
  ·rw [z,fr] at hc; cases hc
 ·obtain ⟨_,f1,_,f3,f4,f5⟩:=hex b hb
  exact ⟨f3,f1,f4,f5⟩
noncomputable abbrev Z2 (ifs:List Expr) (env:Env):Sem Bool:=forIn ifs true fun c r=>if r=true then (do let b <- isTrue c env (eval c env); pure (ForInStep.yield b)) else pure (ForInStep.yield r)
noncomputable abbrev Calm (prog:Program) (w:World) (A:Around) {α:Type} (t:Sem α) (Q:α->Shared->Prop) (s:Shared):Prop:=wpAny (model prog w) A t Q (fun _ _=>False) s
theorem kX {prog:Program} {w:World} {A:Around} {R:Result->Shared->Prop} {s:Shared} {el tg src:Expr} {ifs:List Expr} {bs:Scope} {at_:Pos} {it acc:Value} {env:Env} (Iv:Nat->Shared->Prop)
  (turn:∀ n s,Iv n s->Calm prog w A (pyNext it) (fun got s1=>match got with
   | none=>R (.ok .next) s1
   | some v=>Calm prog w A (letOwnedTupleGo tg it v) (fun _ s2=>Calm prog w A (assign tg env v) (fun _ s3=>Calm prog w A (Z2 ifs env) (fun ok s4 =>
     if ok=true then Calm prog w A (eval el env) (fun x s5=>Calm prog w A (call (.builtin "list.append") [acc,x]) (fun _ s6=>∃ m,m<n/\Iv m s6) s5) s4 else ∃ m,m<n/\Iv m s4) s3) s2) s1) s)
  (n:Nat) (h:Iv n s):codeAny (model prog w) A (.compLoop (.ListComp el [⟨tg,src,ifs,0⟩] bs at_) 0 it acc env) R s:=by
 have no:∀ {α:Type} {E:Value->Shared->Prop} {t:Sem α} {Q Q':α->Shared->Prop} {s:Shared},Calm prog w A t Q s->(∀ a s,Q a s->Q' a s)->wpAny (model prog w) A t Q' E s:=fun h f=>wpAny_mono h f fun _ _ z=>z.elim
 refine codeAny_loop rfl Iv (fun n s hI=>?_) n h
 refine wpAny_noted (m:=compTurn (.ListComp el [⟨tg,src,ifs,0⟩] bs at_) 0 it acc env) ?_
 rw [compTurn_list]
 refine wpAny_bind (wpAny_standAt (wpAny_bind (no (turn n s hI) fun got s1 h1=>?_)))
 match got,h1 with
 | none,h1=>exact wpAny_pure h1
 | some v,h1 =>
  refine wpAny_bind (no h1 fun _ _ h2=>wpAny_bind (no h2 fun _ _ h3=>wpAny_bind (no h3 fun ok s4 h4=>?_)))
  match ok,h4 with
  | false,h4=>exact wpAny_pure (And.intro rfl h4)
  | true,h4=>exact wpAny_bind (wpAny_bind (no h4 fun _ _ h5=>wpAny_bind (no h5 fun _ _ h6=>wpAny_pure (wpAny_pure (And.intro rfl h6)))))
noncomputable abbrev TFk:=L2.St->Hp->(Bool->Hp->Prop)->Prop
noncomputable def PIf (X:Cx) (ifs:List Expr) (t:TFk):Prop :=
 ∀ (pins:List (Addr×Obj)) (s:Shared) (σ:L2.St) (H:Hp) (Q:Bool->Hp->Prop),Inv X pins σ H s->t σ H Q ->
  wpAny (model X.prog X.w) X.A (forIn ifs true fun c r=>if r=true then do let ok <- isTrue c X.env (eval c X.env); pure (ForInStep.yield ok) else pure (ForInStep.yield r)) (TP X pins σ Q) X.xe s
theorem U4:PIf X [] (fun _ H Q=>Q true H):=fun pins s σ H Q I h=>by
 rw [List.forIn_nil]
 exact wpAny_pure ⟨H,I,h⟩
theorem Z3 {c:Expr} {t:TT} (h:PT X c t):PIf X [c] t:=fun pins s σ H Q I hw=>by
 rw [List.forIn_cons]
 refine wpAny_bind ?_
 rw [if_pos rfl]
 refine wpAny_bind (eP (h pins s σ H Q I hw) fun b s1 q=>wpAny_pure ?_)
 dsimp only
 rw [List.forIn_nil]
 exact wpAny_pure q
noncomputable def QA (nl:Nat) (fr:List Nat) (wi:TI) (g:TG) (tf:TFk) (te:TE):TE:=fun σ H Q=>wi σ H fun J H1=>∀ acc,H1 acc=none -> ∃ W:Nat->Nat->Hp->List V->Prop,(∃ m,W 0 m (upd H1 acc (.lst [])) []) /\
 ∀ i m H ys,W i m H ys->H acc=some (.lst ys)/\((J.stop i H/\Q (.ref acc) H)\/(J.go i H /\ ∀ x H',J.yld i H x H'->g x (CU nl fr σ) H' fun σ2 H2=>(σ2.drop nl=fr.map fun j=>(σ[j]?).join)/\tf σ2 H2 fun b H3 =>
  if b=true then te σ2 H3 fun y H4=>H4 acc=some (.lst ys)/\ys.length<sizeLine /\ ∃ m',m'<m/\W (i+1) m' (upd H4 acc (.lst (ys++[y]))) (ys++[y]) else ∃ m',m'<m/\W (i+1) m' H3 ys))
theorem QB {ls fs:List Str} {fr:List Nat} {sc:Scope} {tg iter elt:Expr} {ifs:List Expr} {pos p2:Pos} {wi:TI} {g:TG} {tf:TFk} {te:TE} {pins:List (Addr×Obj)} {σ:L2.St} {H:Hp} {s:Shared} {Qe:VK} {use:Option (Value->Sem Unit)} {Qv:Value->Shared->Prop}
  (hc:X.calm=true) (B:JH X ls fs fr sc) (hi:PI X tg iter wi) (hg:∀ cl C pn ex s H,PG (blk X (ls++fs) sc cl C pn ex s H) tg g) (hf:∀ cl C pn ex s H,PIf (blk X (ls++fs) sc cl C pn ex s H) ifs tf) (he:∀ cl C pn ex s H,PE (blk X (ls++fs) sc cl C pn ex s H) elt te)
  (hs:∀ x,foldedSetIterable iter X.env x=pure x) (I:Inv X pins σ H s) (h:QA ls.length fr wi g tf te σ H Qe)
  (fin:∀ acc C s' H',Inv X pins σ H' s'->(∃ m,s'.heap.Ns C m)->lY X pins H' C->Qe (.ref acc) H'->compPost (model X.prog X.w) X.A X.xe use Qv (.ref acc) C (.ok .next) s') :
  wpAny (model X.prog X.w) X.A (comprehension (.ListComp elt [⟨tg,iter,ifs,0⟩] sc pos) sc X.env p2 (newList []) false (eval iter X.env) use) Qv X.xe s:=by
 obtain ⟨cl,ecl,hcl,A3⟩:=GC (scope:=sc) (env:=X.env) fun x hx hf=>I.ok.has x.1 (B.free x hx hf)
 refine wpAny_comprehension_free (g:=⟨tg,iter,ifs,0⟩) (gs:=[]) rfl hs ecl B.kind (fun x hx e=>(B.uniq x hx).trans (congrArg some e)) ?_
 refine eP (hi pins s σ H _ I h) fun v s1 h1=>eP h1 fun itv s2 h2=>?_
 obtain ⟨it,fp,tn,J,H2,e,I2,T,st2,f2,h2⟩:=h2
 subst e
 refine wpAny_newObj_type ?_ (by show ([]:List Value).toArray.size<=sizeLine; simp)
 have hacc:H2 s2.heap.objs.size=none:=I2.hok.fresh (Nat.le_refl _)
 have I3:Inv X pins σ (upd H2 s2.heap.objs.size (.lst [])) { s2 with heap:=s2.heap.push { cls:=.type "list",data:=.seq ([]:List Value).toArray } } :=
  I2.laid (t':=s2.toks) (fun b o e=>Heap.get?_push_of_some _ e) (Nat.le_refl _) ⟨by simp,[],0,.nil,Heap.get?_push_size _ rfl⟩
 have hfp:∀ b∈fp,b<s2.heap.objs.size:=fun b hb=>by obtain ⟨o,e,_⟩:=T.obj _ _ st2 b hb; exact Heap.lt_size e
 obtain ⟨W,⟨m0,w0⟩,turn⟩:=h2 _ hacc
 generalize CW:s2.heap.objs.size=acc at hacc I3 w0 turn ⊢
 have aG9:∀ b∈fp,b≠acc:=fun b hb=>CV (hfp b hb) (Nat.le_of_eq CW)
 have f3:∀ b∈fp,lY X pins (upd H2 acc (.lst [])) b:=fun b hb=>⟨by rw [aO (aG9 b hb)]; exact (f2 b hb).1,(f2 b hb).2⟩
 generalize hs3:({ s2 with heap:=s2.heap.push { cls:=.type "list",data:=.seq ([]:List Value).toArray } }:Shared)=s3 at I3
 have hsz3:s3.heap.objs.size=acc+1:=by rw [<- hs3]; show (s2.heap.push _).objs.size=_; rw [Heap.size_push,CW]
 have st3:tn 0 s3.heap:=T.keep _ _ _ st2 fun b hb o e=>by rw [<- hs3]; exact Heap.get?_push_of_some _ e
 refine LG fun h4 hn4 hk4 co=>?_
 generalize hC:s3.heap.objs.size=C at hn4 co ⊢
 have eC:cellsFrom (C+1) sc.names cl=cellsFrom (C+1) sc.names []++cl:=gF sc.names (C+1) [] cl
 generalize hcs:cellsFrom (C+1) sc.names []=cs at co eC
 have own:∀ x c,cs.lookup x=some c->(x,NameKind.cell)∈sc.names/\C<c/\h4.IsCell c none:=fun x c e=>by
  have m:=PySem.mem_of_lookup e
  refine ⟨?_,(co.empty x c m).2,(co.empty x c m).1⟩
  rw [<- hcs] at m
  rcases iO _ _ _ _ m with z | z
  ·cases z
  ·exact z
 generalize hdl:cellsFrom (C+1) sc.names cl=dl at eC ⊢
 have two:∀ x c,dl.lookup x=some c->cs.lookup x=some c\/(cs.lookup x=none/\cl.lookup x=some c):=fun x c e=>by
  rw [eC,List.lookup_append] at e
  cases q:cs.lookup x with
  | none=>rw [q] at e; exact .inr ⟨rfl,e⟩
  | some d=>rw [q] at e; exact .inl e
 have aGa:∀ x∈sc.names,x.2=.free->dl.lookup x.1=X.env.cells.lookup x.1:=fun x hx e=>by
  rw [<- hcl x hx e,eC,List.lookup_append]
  cases q:cs.lookup x.1 with
  | none=>rfl
  | some d =>
   have z:=B.uniq _ (own _ _ q).1
   rw [B.uniq x hx,e] at z
   cases z
 have aCS:∀ x c,dl.lookup x=some c->X.env.cells.lookup x=some c\/(C<c/\h4.IsCell c none):=fun x c e=>by
  rcases two x c e with e | ⟨_,e⟩
  ·exact .inr (own x c e).2
  ·exact .inl (A3 x c e)
 have aGb:∀ x∈sc.names,x.2=.cell -> ∃ c,dl.lookup x.1=some c/\C<c:=fun x hx e=>by
  obtain ⟨c,hc⟩:=jE sc.names (C+1) [] x.1 (.inr (by rw [<- e]; exact hx))
  rw [hcs] at hc
  exact ⟨c,by rw [eC,List.lookup_append,hc]; rfl,(own _ _ hc).2.1⟩
 have low:∀ x c,cl.lookup x=some c->c<C:=fun x c e=>by
  obtain ⟨v,o,ho,_⟩:=I3.cell x c (A3 x c e)
  rw [<- hC]; exact Heap.lt_size ho
 have aGc:∀ x y c,dl.lookup x=some c->dl.lookup y=some c->x=y:=fun x y c e e'=>by
  rcases two x c e with e | ⟨_,e⟩<;>rcases two y c e' with e' | ⟨_,e'⟩
  ·exact name_of_addr co.apart (PySem.mem_of_lookup e) (PySem.mem_of_lookup e')
  ·exact absurd (own _ _ e).2.1 (Nat.lt_asymm (low _ _ e'))
  ·exact absurd (own _ _ e').2.1 (Nat.lt_asymm (low _ _ e))
  ·exact I3.ok.inj x y c (A3 x c e) (A3 y c e')
 have I4:Inv (blk X (ls++fs) sc dl C (X.pn++pins) fp s3 (upd H2 acc (.lst []))) [] (CU ls.length fr σ) (upd H2 acc (.lst [])) { s3 with heap:=h4 } :=
  U3 B I3 aGa aCS aGb aGc (fun b hb=>⟨f3 b hb,by rw [hsz3,<- CW]; exact Nat.lt_succ_of_lt (hfp b hb)⟩) hC.symm hn4 hk4 rfl rfl
 generalize hX:blk X (ls++fs) sc dl C (X.pn++pins) fp s3 (upd H2 acc (.lst []))=Y at I4
 have pY:Y.prog=X.prog:=by rw [<- hX]; rfl
 have wY:Y.w=X.w:=by rw [<- hX]; rfl
 have kY:Y.K=X.K:=by rw [<- hX]; rfl
 have AY:Y.A=X.A:=by rw [<- hX]; rfl
 have cY:Y.calm=true:=by rw [<- hX]; exact hc
 have eY:Y.env=compEnvC sc dl C X.env:=by rw [<- hX]; rfl
 have xY:Y.xe=fun _ _=>False:=by rw [<- hX]; rfl
 have QC:∀ {H':Hp},(∀ b∈fp,H' b=none) -> ∀ b∈fp,lY Y [] H' b:=fun hn b hb=>by
  rw [<- hX]
  obtain ⟨_,f1,f2',_,f4,f5⟩:=f3 b hb
  refine ⟨hn b hb,fun z=>?_,fun z=>?_,.inl hb,fun x c e=>?_,fun p hp=>f5 p ?_⟩
  ·exact absurd z (CV (hfp b hb) (by rw [<- hC,hsz3,CW]; exact Nat.le_succ _))
  ·rcases List.mem_cons.mp (I3.nJ b z) with z | z
   ·exact f1 z
   ·exact f2' z
  ·rcases aCS x c e with e | ⟨e,_⟩
   ·exact f4 x c e
   ·exact Ne.symm (CV (hfp b hb) (by rw [CW]; exact Nat.le_of_lt (Nat.lt_trans (by rw [<- hC,hsz3]; exact Nat.lt_succ_self _) e)))
  ·have hp:p∈(X.pn++pins)++[]:=hp
   rw [List.append_nil] at hp; exact hp
 have st4:tn 0 h4:=T.keep _ _ _ st3 fun b hb o e=>hk4 b o e
 have loop:∀ s5:Shared,(∃ i H',Inv Y [] (CU ls.length fr σ) H' s5/\tn i s5.heap/\(∀ b∈fp,H' b=none) /\ ∃ m ys,W i m H' ys)->codeAny (model X.prog X.w) X.A (.compLoop (.ListComp elt [⟨tg,iter,ifs,0⟩] sc pos) 0 (.ref it) (.ref acc) (compEnvC sc dl C X.env)) (compPost (model X.prog X.w) X.A X.xe use Qv (.ref acc) C) s5:=by
  rintro s5 ⟨i,H',I5,st5,fr5,m,ys,w5⟩
  refine kX (fun n s'=>∃ i H' ys,Inv Y [] (CU ls.length fr σ) H' s'/\tn i s'.heap/\(∀ b∈fp,H' b=none)/\W i n H' ys) ?_ m ⟨i,H',ys,I5,st5,fr5,w5⟩
  rintro n s6 ⟨i,H6,ys,I6,st6,fr6,w6⟩
  obtain ⟨ha6,alt⟩:=turn i n H6 ys w6
  rcases alt with ⟨stop,qn⟩ | ⟨go,step⟩
  ·have q:=T.done Y pY wY kY cY i [] s6 _ H6 (fun _ _=>False) I6 (QC fr6) st6 stop
   rw [AY] at q
   refine eP q fun r s7 aGd=>?_
   obtain ⟨hr,I7⟩:=aGd
   subst hr
   have fr7:H6 C=none:=by
    have:=I7.free
    rw [eY] at this
    exact this
   refine fin acc C s7 H6 ?_ ?_ (I3.FG (Nat.le_of_eq hC) fr7) qn
   ·rw [<- hX] at I7
    exact P9 I3 I7 (fun b hb=>f3 b hb) hC.symm (.refl ..)
   ·obtain ⟨m,hm,_⟩:=I7.loc
    rw [eY] at hm
    exact ⟨m,hm⟩
  ·have q:=T.item Y pY wY kY cY i [] s6 _ H6 (fun _ _=>False) I6 (QC fr6) st6 go
   rw [AY] at q
   refine eP q fun r s7 aGe=>?_
   obtain ⟨u,hr,h7⟩:=aGe
   subst hr
   refine eP h7 fun _ s8 aGf=>?_
   obtain ⟨x,H8,I8,r8,y8,st8,fr8⟩:=aGf
   have I8':=I8.pinned (QC fr8) (T.obj _ _ st8)
   have hgY:=hg dl C (X.pn++pins) fp s3 (upd H2 acc (.lst []))
   have hfY:=hf dl C (X.pn++pins) fp s3 (upd H2 acc (.lst []))
   have heY:=he dl C (X.pn++pins) fp s3 (upd H2 acc (.lst []))
   rw [hX] at hgY hfY heY
   have q8:=hgY _ s8 _ H8 x u _ I8' r8 (step x H8 y8)
   rw [pY,wY,AY,eY,xY] at q8
   refine eP q8 fun _ s9 aGh=>?_
   obtain ⟨σ9,H9,I9,hσ9,q9⟩:=aGh
   have Z4:=hfY _ s9 σ9 H9 _ I9 q9
   rw [pY,wY,AY,eY,xY] at Z4
   refine eP Z4 fun ok s10 aGi=>?_
   obtain ⟨H10,I10,Z4⟩:=aGi
   have bl:∀ {H7:Hp} {s7:Shared},Inv Y ([]++uR fp s8.heap) σ9 H7 s7->(∃ m',m'<n /\ ∃ ys',W (i+1) m' H7 ys') -> ∃ m,m<n /\ ∃ i H' ys,Inv Y [] (CU ls.length fr σ) H' s7/\tn i s7.heap/\(∀ b∈fp,H' b=none)/\W i m H' ys:=fun {H7 s7} I7 ⟨m',hm,ys',w7⟩=>by
    refine ⟨m',hm,i+1,H7,ys',?_,T.keep _ _ _ st8 fun b hb o e=>(I7.pin (b,o) (List.mem_append_right _ (List.mem_append_right _ (j4 hb e)))).1,fun b hb=>?_,w7⟩
    ·refine I7.oN.weak ?_ fun k v e=>?_
     ·rw [I7.len,<- I6.len]
     ·by_cases hk:k<ls.length
      ·unfold CU at e
       rw [List.getElem?_append_left (by simpa using hk),List.getElem?_replicate,if_pos hk] at e
       cases e
      ·have e2:(σ9.drop ls.length)[k - ls.length]? = some (some v):=by
        rw [hσ9]
        unfold CU at e
        rw [List.getElem?_append_right (by simpa using hk),List.length_replicate] at e
        exact e
       rw [List.getElem?_drop] at e2
       rw [show ls.length+(k - ls.length)=k by omega] at e2
       exact e2
    ·obtain ⟨o,e,d⟩:=T.obj _ _ st8 b hb
     exact (I7.pin (b,o) (List.mem_append_right _ (List.mem_append_right _ (j4 hb e)))).2.1
   cases ok with
   | false =>
    rw [if_neg Bool.false_ne_true] at Z4 ⊢
    obtain ⟨m',hm,w'⟩:=Z4
    exact bl I10 ⟨m',hm,ys,w'⟩
   | true =>
    rw [if_pos rfl] at Z4 ⊢
    have q11:=heY _ s10 σ9 H10 _ I10 Z4
    rw [pY,wY,AY,eY,xY] at q11
    refine eP q11 fun yv s11 aGj=>?_
    obtain ⟨y,H11,I11,r11,Z5,aGk,m',hm,w'⟩:=aGj
    have q12:=(yC (X:=Y)) _ s11 σ9 H11 (.ref acc) [y] (.ref acc) [yv] (fun _ H'=>H' = upd H11 acc (.lst (ys++[y]))) I11 rfl (.cons r11 .nil) ⟨acc,ys,y,rfl,rfl,Z5,aGk,rfl⟩
    rw [pY,wY,AY,xY] at q12
    refine eP q12 fun _ s12 aGl=>?_
    obtain ⟨_,H12,I12,_,e12⟩:=aGl
    subst e12
    exact bl I12 ⟨m',hm,_,w'⟩
 have L0:=loop _ ⟨0,_,I4,st4,fun b hb=>(f3 b hb).1,m0,[],w0⟩
 refine codeAny_compStart_list L0 (T.self _ 0 _ _ _ st4 L0)
theorem U5 {ls fs:List Str} {fr:List Nat} {sc:Scope} {tg iter elt:Expr} {ifs:List Expr} {pos:Pos} {wi:TI} {g:TG} {tf:TFk} {te:TE}
  (hc:X.calm=true) (B:JH X ls fs fr sc) (hi:PI X tg iter wi) (hg:∀ cl C pn ex s H,PG (blk X (ls++fs) sc cl C pn ex s H) tg g) (hf:∀ cl C pn ex s H,PIf (blk X (ls++fs) sc cl C pn ex s H) ifs tf) (he:∀ cl C pn ex s H,PE (blk X (ls++fs) sc cl C pn ex s H) elt te)
  (hs:∀ x,foldedSetIterable iter X.env x=pure x:=by intro _; rfl):PE X (.ListComp elt [⟨tg,iter,ifs,0⟩] sc pos) (QA ls.length fr wi g tf te):=by
 intro pins s σ H Q I h
 rw [eval_ListComp]
 refine QB (use:=none) hc B hi hg hf he hs I h fun acc C s' H' I' hm fp q=>?_
 obtain ⟨m,hm⟩:=hm
 obtain ⟨f0,f1,_,f3,f4,f5⟩:=fp
 exact ⟨m,hm,fun h' hsb=>⟨.ref acc,H',I'.turned (t':=s'.toks) (fun b o hb e=>(hsb.2 b hb).trans e) f0 f1 f3 f4 f5,rfl,q⟩⟩
end
noncomputable def chk (outer:List (Str×NameKind)) (sc:Scope) (N ls fs:List Str) (fr:List Nat):Bool :=
 (sc.kind == .function)&&decide (ls++fs).Nodup&&sc.names.all (fun x=>decide (sc.names.lookup x.1=some x.2)) &&
 sc.names.all (fun x=>decide (x.2=.free->(outer.lookup x.1=some .cell\/outer.lookup x.1=some .free)))&&decide (fr.length=fs.length) &&
 (fs.zip fr).all (fun x=>decide (N[x.2]? = some x.1)&&sc.names.contains (x.1,NameKind.free)&&decide (sc.names.lookup x.1=some .free))
theorem GD {X:Cx} {ls fs:List Str} {fr:List Nat} {sc:Scope} (h:chk X.env.scope.names sc X.N ls fs fr=true):JH X ls fs fr sc:=by
 unfold chk at h
 simp only [Bool.and_eq_true,List.all_eq_true,decide_eq_true_eq] at h
 obtain ⟨⟨⟨⟨⟨h1,h2⟩,h3⟩,h5⟩,h6⟩,h7⟩:=h
 refine ⟨eq_of_beq h1,h2,h3,h5,fun k x e=>?_,h6⟩
 have hk:k<fs.length:=(List.getElem?_eq_some_iff.mp e).1
 have hm:(x,fr[k]'(by omega))∈fs.zip fr:=by
  have:(fs.zip fr)[k]? = some (x,fr[k]'(by omega)):=by
   rw [List.getElem?_zip_eq_some]
   exact ⟨e,by simp⟩
  exact List.mem_of_getElem? this
 obtain ⟨⟨a,b⟩,c⟩:=h7 _ hm
 exact ⟨fr[k]'(by omega),by simp,a,by simpa using b,c⟩
noncomputable abbrev GE:=D->bN->(bN->Prop)->Prop
noncomputable def GF (K:PySem.W.Frag) (nl n:Nat) (g:GE):TG:=fun v σ H Q=>∃ (S:Addr->Prop) (ρ:bN) (d:D) (Q3:bN->Prop),σ.length=n/\(∀ a,H a=none->S a)/\Sl K S H ρ σ/\Dn K S H d v/\g d ρ Q3 /\
 ∀ σ' ρ',Sl K S H ρ' σ'->σ'.drop nl=σ.drop nl->Q3 ρ'->Q σ' H
noncomputable def PG4 (X:Cx) (nl:Nat) (tg:Expr) (g:GE):Prop:=PG X tg (GF X.K nl X.N.length g)
theorem Sl.set {K:PySem.W.Frag} {S:Addr->Prop} {H:Hp} {ρ:bN} {σ:L2.St} {i:Nat} {d:D} {v:V} (h:Sl K S H ρ σ) (hi:i<σ.length) (q:Dn K S H d v):Sl K S H (ρ.set i (some d)) (σ.set i (some v)):=fun j e he=>by
 rcases get_set he with ⟨hj,z,_⟩ | ⟨hj,z⟩
 ·cases z
  subst hj
  exact ⟨v,List.getElem?_set_self hi,q⟩
 ·obtain ⟨u,a,b⟩:=h j e z
  exact ⟨u,by rw [List.getElem?_set_ne (Ne.symm hj)]; exact a,b⟩
noncomputable def hN (i:Nat):GE:=fun d ρ Q=>Q (ρ.set i (some d))
noncomputable def h2 (i j:Nat):GE:=fun d ρ Q=>match d with
 | .tup [d1,d2]=>Q ((ρ.set i (some d1)).set j (some d2))
 | _=>False
theorem drop_set {α:Type} {l:List α} {i n:Nat} {x:α} (h:i<n):(l.set i x).drop n=l.drop n:=by
 rw [List.drop_set,if_pos h]
section
variable {X:Cx}
theorem aCT {nl i:Nat} {x:Str} {pos:Pos} (nd:X.N.Nodup) (hil:i<nl) (hi:X.N[i]? = some x:=by rfl) (hx:Loc X.env.scope x:=by first | exact .inl rfl | exact .inr rfl) (hfx:X.fn x=true\/X.env.scope.names.lookup x=some .local:=by first | exact .inr rfl | exact .inl rfl):PG4 X nl (.Name x pos) (hN i) :=
 LF (lO nd hi hx hfx) fun v σ H Q aGm=>by obtain ⟨S,ρ,d,Q3,hl,fc,sl,dn,hg,k⟩:=aGm; exact k _ _ (sl.set (by rw [hl]; exact kW hi) dn) (drop_set hil) hg
theorem aCU {nl i j:Nat} {x y:Str} {kk:Nat} {pos px py:Pos} (hc:X.calm=true) (nd:X.N.Nodup) (hil:i<nl) (hjl:j<nl) (hi:X.N[i]? = some x:=by rfl) (hj:X.N[j]? = some y:=by rfl) (hx:Loc X.env.scope x:=by first | exact .inl rfl | exact .inr rfl) (hfx:X.fn x=true\/X.env.scope.names.lookup x=some .local:=by first | exact .inr rfl | exact .inl rfl) (hy:Loc X.env.scope y:=by first | exact .inl rfl | exact .inr rfl) (hfy:X.fn y=true\/X.env.scope.names.lookup y=some .local:=by first | exact .inr rfl | exact .inl rfl)
  (hn:(assignEach [.Name x px,.Name y py] X.env).length=2:=by rfl) (hst:(assignEach [.Name x px,.Name y py] X.env).findIdx? (·.1)=none:=by rfl)
  (hs1:(assignEach [.Name x px,.Name y py] X.env).map (·.2)=assign (.Name x px) X.env::(assignEach [.Name y py] X.env).map (·.2):=by rfl) (hs2:(assignEach [.Name y py] X.env).map (·.2)=assign (.Name y py) X.env::(assignEach [] X.env).map (·.2):=by rfl) :
  PG4 X nl (.Tuple [.Name x px,.Name y py] kk pos) (h2 i j) :=
 LF (OR (n:=2) hc (oK (lO nd hi hx hfx) (oK (lO nd hj hy hfy) IQ hs2) hs1) hn hst) fun v σ H Q aGo=>by
  obtain ⟨S,ρ,d,Q3,hl,fc,sl,dn,hg,k⟩:=aGo
  unfold h2 at hg
  split at hg
  ·rename_i d1 d2
   simp only [Dn] at dn
   obtain ⟨a,xs,rfl,ha,da⟩:=dn
   obtain ⟨v1,r1,rfl,h1,h2⟩:=da.bR
   obtain ⟨v2,r2,rfl,h3,h4⟩:=h2.bR
   simp only [aR] at h4
   subst h4
   refine ⟨a,_,rfl,(fU.of ha),rfl,v1,[v2],rfl,v2,[],rfl,rfl,?_⟩
   exact k _ _ ((sl.set (by rw [hl]; exact kW hi) h1).set (by rw [List.length_set,hl]; exact kW hj) h3) (by rw [drop_set hjl,drop_set hil]) hg
  ·exact hg.elim
noncomputable def U6 (X:Cx) (ifs:List Expr) (t:WT):Prop:=PIf X ifs (liftT X.K t)
noncomputable def aCV:WT:=fun _ Q=>Q true
theorem aGp:U6 X [] aCV:=fun pins s σ H Q I aGq=>by obtain ⟨S,ρ,Q3,fc,sl,ht,k⟩:=aGq; exact U4 pins s σ H Q I (k true H (Same.refl H) ht)
theorem aCW {c:Expr} {t:WT} (h:wN X c t):U6 X [c] t:=Z3 h
noncomputable def oU (g:GE) (tf:WT) (te:WE) (ρ:bN):List D->List D->(D->Prop)->Prop
 | [],acc,Q=>Q (.lst acc)
 | d::r,acc,Q=>g d ρ fun ρ2=>tf ρ2 fun b=>if b=true then te ρ2 fun y=>acc.length<sizeLine/\oU g tf te ρ r (acc++[y]) Q else oU g tf te ρ r acc Q
noncomputable def benv (nl:Nat) (fr:List Nat) (ρ:bN):bN:=List.replicate nl none++fr.map fun j=>(ρ[j]?).join
noncomputable def QD (nl:Nat) (fr:List Nat) (ti:WI) (g:GE) (tf:WT) (te:WE):WE:=fun ρ Q=>ti ρ fun ds=>oU g tf te (benv nl fr ρ) ds [] Q
theorem U7 {K:PySem.W.Frag} {S:Addr->Prop} {H:Hp} {ρ:bN} {σ:L2.St} {nl:Nat} {fr:List Nat} (h:Sl K S H ρ σ):Sl K S H (benv nl fr ρ) (CU nl fr σ):=fun i d e=>by
 unfold benv at e
 unfold CU
 by_cases hi:i<nl
 ·rw [List.getElem?_append_left (by simpa using hi),List.getElem?_replicate,if_pos hi] at e
  cases e
 ·rw [List.getElem?_append_right (by simpa using hi),List.getElem?_map,List.length_replicate] at e ⊢
  cases q:fr[i - nl]? with
  | none=>rw [q] at e; cases e
  | some j =>
   rw [q] at e
   have e1:(ρ[j]?).join=some d:=Option.some.inj e
   have e2:ρ[j]? = some (some d):=by
    cases z:ρ[j]? with
    | none=>rw [z] at e1; cases e1
    | some o=>rw [z] at e1; rw [show o=some d from e1]
   obtain ⟨v,ev,dv⟩:=h j d e2
   exact ⟨v,by show some ((σ[j]?).join)=_; rw [ev]; rfl,dv⟩
theorem LH {K:PySem.W.Frag} {nl n:Nat} {fr:List Nat} {ti:WI} {g:GE} {tf:WT} {te:WE} {σ:L2.St} {H:Hp} {Q:VK} (hn:nl+fr.length=n) (h:PQ K (QD nl fr ti g tf te) σ H Q):QA nl fr (W0 K ti) (GF K nl n g) (liftT K tf) (lift K te) σ H Q:=by
 obtain ⟨S,ρ,Q3,fc,sl,ht,k⟩:=h
 refine ⟨S,ρ,_,fc,sl,ht,fun J H1 ds G s1 hG wk q1=>?_⟩
 intro acc hacc
 have h0:H acc=none:=s1.free hacc
 have fc1:=aW fc s1
 have ok:∀ {H2:Hp},Same H1 H2->(∃ ys,H2 acc=some (.lst ys))->(∀ a,H2 a=none->S a/\a≠acc)/\Sl K (fun a=>S a/\a≠acc) H2 (benv nl fr ρ) (CU nl fr σ) /\ ∀ g∈G,Dn K (fun a=>S a/\a≠acc) H2 g.1 g.2:=fun {H2} s2 hy=>by
  refine ⟨fun a e=>⟨aW fc1 s2 a e,fun z=>?_⟩,?_,fun g hg=>Dn.fits ((Fits.fresh hacc).trans (.same s2)) _ _ (hG g hg)⟩
  ·subst z
   obtain ⟨ys,hy⟩:=hy
   rw [e] at hy; cases hy
  ·exact U7 (Sl.fits ((Fits.fresh h0).trans (.same (s1.trans s2))) sl)
 refine ⟨fun i m H2 ys=>m=ds.length - i/\i<=ds.length/\Same H1 H2/\H2 acc=some (.lst ys) /\ ∃ aD,aR K (fun a=>S a/\a≠acc) H2 aD ys/\oU g tf te (benv nl fr ρ) (ds.drop i) aD Q3,
  ⟨_,rfl,Nat.zero_le _,aK hacc,aS,[],aR.nil,q1⟩,?_⟩
 rintro i m H2 ys ⟨rfl,hi,s2,hy,aD,dn,cw⟩
 obtain ⟨fc2,sl2,gh2⟩:=ok s2 ⟨ys,hy⟩
 refine ⟨hy,?_⟩
 by_cases hlt:i<ds.length
 ·refine .inr ?_
  obtain ⟨g1,g2⟩:=wk.go _ H2 fc2 gh2 i ds[i] (by simp [hlt])
  refine ⟨g1,fun x H' y=>?_⟩
  obtain ⟨s3,dx⟩:=g2 x H' y
  rw [List.drop_eq_getElem_cons hlt,oU] at cw
  refine ⟨fun a=>S a/\a≠acc,benv nl fr ρ,ds[i],_,?_,aW fc2 s3,Sl.fits (.same s3) sl2,dx,cw,fun σ' ρ' sl' hd q'=>?_⟩
  ·unfold CU; rw [List.length_append,List.length_replicate,List.length_map]; exact hn
  ·refine ⟨by rw [hd]; unfold CU; rw [List.drop_append_of_le_length (by simp),List.drop_replicate]; simp,fun a=>S a/\a≠acc,ρ',_,aW fc2 s3,sl',q',fun b H3 s4 q4=>?_⟩
   cases b with
   | false =>
    rw [if_neg Bool.false_ne_true] at q4 ⊢
    exact ⟨_,by omega,rfl,hlt,(s2.trans s3).trans s4,(s3.trans s4) _ _ hy,aD,aR.fits (.same (s3.trans s4)) _ _ dn,q4⟩
   | true =>
    rw [if_pos rfl] at q4 ⊢
    refine ⟨fun a=>S a/\a≠acc,ρ',_,aW fc2 (s3.trans s4),Sl.fits (.same s4) sl',q4,fun v H4 d s5 d5 q5=>?_⟩
    have hy4:H4 acc=some (.lst ys):=((s3.trans s4).trans s5) _ _ hy
    have F:Fits K (fun a=>S a/\a≠acc) (fun a=>S a/\a≠acc) H4 (upd H4 acc (.lst (ys++[v]))):=.upd (.inl ⟨_,hy4⟩) fun z=>z.2 rfl
    refine ⟨hy4,by rw [<- dn.len]; exact q5.1,_,by omega,rfl,hlt,fun b u hb=>?_,aS,aD++[d],aR.fits F _ _ ((aR.fits (.same ((s3.trans s4).trans s5)) _ _ dn).append (aR.one d5)),q5.2⟩
    rw [aO (bI hb hacc)]
    exact (((s2.trans s3).trans s4).trans s5) _ _ hb
 ·have e:i=ds.length:=by omega
  subst e
  rw [List.drop_length,oU] at cw
  exact .inl ⟨wk.stop _ H2 gh2 _ rfl,k acc ys H2 aD h0 hy (s1.trans s2) dn cw⟩
theorem aCX {ls fs:List Str} {fr:List Nat} {sc:Scope} {tg iter elt:Expr} {ifs:List Expr} {pos:Pos} {ti:WI} {g:GE} {tf:WT} {te:WE} (hc:X.calm=true) (hi:W2 X tg iter ti)
  (hg:∀ cl C pn ex s H,(blk X (ls++fs) sc cl C pn ex s H).N.Nodup->PG4 (blk X (ls++fs) sc cl C pn ex s H) ls.length tg g) (hf:∀ cl C pn ex s H,U6 (blk X (ls++fs) sc cl C pn ex s H) ifs tf) (he:∀ cl C pn ex s H,cD (blk X (ls++fs) sc cl C pn ex s H) elt te)
  (B:chk X.env.scope.names sc X.N ls fs fr=true:=by rfl) (hs:∀ x,foldedSetIterable iter X.env x=pure x:=by intro _; rfl):ED X (.ListComp elt [⟨tg,iter,ifs,0⟩] sc pos) (QD ls.length fr ti g tf te) :=
 imp (U5 (g:=GF X.K ls.length (ls++fs).length g) (tf:=liftT X.K tf) (te:=lift X.K te) hc (GD B) hi (fun cl C pn ex s H=>hg cl C pn ex s H (GD B).nd) hf he hs) fun σ H Q h=>LH (n:=(ls++fs).length) (by rw [List.length_append,(GD B).FZ]) h
end
section
variable {X:Cx}
noncomputable def tyD:D->String
 | .non => "NoneType"
 | .bl _ => "bool"
 | .int _ => "int"
 | .str _ => "str"
 | .tup _ => "tuple"
 | .lst _ => "list"
 | .nW _ => "list"
 | .iQ _ _ => "dict"
 | .iH _ _ _ => "dict"
 | .exc _ _ => "NoneType"
 | .rws _ => "NoneType"
inductive GG:String->Prop
 | t:GG "tuple"
 | b:GG "bool"
 | i:GG "int"
 | s:GG "str"
noncomputable def isT (T:String) (d:D):Bool:=tyD d == T||(T == "int" && tyD d == "bool")
noncomputable def aGr (K:PySem.W.Frag) (T:String):List V->Hp->VK->Prop:=fun xs H Q=>∃ x t b,xs=[x,.ty T]/\(oO K H x t\/(t=.type "tuple" /\ ∃ a ys,x=.ref a/\fU K H a ys)\/(t=.type "list" /\ ∃ a ys,x=.ref a/\fS K H a ys))/\PySem.W.kitOne K t (.type T)=some b/\Q (.bl b) H
theorem QE {T:String}:fK X (.builtin "isinstance") (aGr X.K T):=by
 intro pins s σ H xs us Q I r h
 obtain ⟨x,t,b,rfl,ty,e,q⟩:=h
 obtain ⟨u,w',rfl,r1,r2⟩:=vals2 r
 obtain rfl:w' = Value.type T:=r2
 rcases ty with ty | ⟨rfl,a,ys,rfl,hq⟩ | ⟨rfl,a,ys,rfl,hq⟩
 ·exact K1 I r1 ty e fun tk=>⟨.bl b,H,I.tok tk,rfl,q⟩
 ·cases r1
  obtain ⟨its,_,p,_⟩:=I.tuple hq
  obtain ⟨o,h1,h2,_⟩:=p
  exact PySem.W.kia_one PySem.W.kitx_tuple I.wM ⟨o,h1,h2⟩ e (fun z=>nomatch z) fun tk=>⟨.bl b,H,I.tok tk,rfl,q⟩
 ·cases r1
  obtain ⟨its,_,p,_⟩:=I.list hq
  obtain ⟨o,n,h1,h2,_⟩:=p
  exact PySem.W.kia_one PySem.W.kitx_list I.wM ⟨o,h1,h2⟩ e (fun z=>nomatch z) fun tk=>⟨.bl b,H,I.tok tk,rfl,q⟩
noncomputable def W4:D->Prop
 | .exc _ _=>False
 | .iH _ _ _=>False
 | .rws _=>False
 | _=>True
noncomputable def aGs (T:String) (t:WE):WE:=fun ρ Q=>t ρ fun d=>W4 d/\Q (.bl (isT T d))
theorem aGt {K:PySem.W.Frag} {T:String} (h:GG T) (d:D):PySem.W.kitOne K (.type (tyD d)) (.type T)=some (isT T d):=by
 cases h<;>cases d<;>with_unfolding_all rfl
theorem aCZ {K:PySem.W.Frag} {S:Addr->Prop} {H:Hp} {d:D} {v:V} (hne:W4 d) (h:Dn K S H d v):∃ t,t=Value.type (tyD d)/\(oO K H v t\/(t=.type "tuple" /\ ∃ a ys,v=.ref a/\fU K H a ys)\/(t=.type "list" /\ ∃ a ys,v=.ref a/\fS K H a ys)):=by
 refine ⟨_,rfl,?_⟩
 cases d<;>simp only [Dn] at h
 ·subst h; exact .inl .non
 ·subst h; exact .inl (.bl _)
 ·subst h; exact .inl (.int _)
 ·subst h; exact .inl (.str _)
 ·obtain ⟨a,xs,rfl,hq,_⟩:=h; exact .inr (.inl ⟨rfl,a,xs,rfl,(fU.of hq)⟩)
 ·obtain ⟨a,xs,rfl,hq,_⟩:=h; exact .inl (.lst hq)
 ·obtain ⟨a,rfl,hq⟩:=h; exact .inr (.inr ⟨rfl,a,_,rfl,hq.sq⟩)
 ·obtain ⟨a,xs,rfl,hq,_⟩:=h; exact .inl (.dK hq)
 ·exact hne.elim
 ·exact hne.elim
 ·exact hne.elim
theorem aGu {T:String} {x:Str} {e:Expr} {t:WE} {p p2 pos:Pos} (hT:GG T) (hm:X.mg "isinstance" = none) (hmT:X.mg x=none) (hv:bootBuiltins x=some (.type T)) (he:cD X e t) (hg:Gl X "isinstance" := by rfl) (hgT:Gl X x:=by rfl) (hn:x ≠ "__name__" := by decide) (hdb:(x == ("__debug__" : Str))=false:=by decide)
  (hs:starEach [e,.Name x p2] X.env=(false,eval e X.env)::starEach [.Name x p2] X.env:=by rfl) (hs2:starEach [.Name x p2] X.env=(false,eval (.Name x p2) X.env)::starEach [] X.env:=by rfl) (hpl:(backTo pos (starEach [.Name x p2] X.env)).any (·.1)=false:=by rfl) :
  cD X (.Call (.Name "isinstance" p) [e,.Name x p2] [] pos) (aGs T t) :=
 imp (oP (QE (T:=T)) hg hm PyProof.Rows.boot_isinstance (gO he (gO (TY (v:=.ty T) hgT hmT hv rfl hn hdb) kP hs2) hs) (by decide) (by decide) hs hpl) fun σ H Q aGx=>by
  obtain ⟨S,ρ,Q3,fc,sl,ht,k⟩:=aGx
  refine ⟨S,ρ,_,fc,sl,ht,fun v H1 d s1 d1 q1=>?_⟩
  obtain ⟨tt,e1,e2⟩:=aCZ q1.1 d1
  refine ⟨v,tt,isT T d,rfl,e2,?_,k _ H1 (.bl _) s1 (by simp only [Dn]) q1.2⟩
  rw [e1]; exact aGt hT d
noncomputable def W5:List D->Option (List Bool)
 | []=>some []
 | .bl b::r=>(W5 r).map (b :: ·)
 | _::_=>none
theorem range_all (bs:List Bool):(List.range bs.length).all (fun i=>bs.getD i true)=bs.all id:=by
 induction bs with
 | nil=>rfl
 | cons b bs ih=>rw [List.length_cons,List.range_succ_eq_map,List.all_cons,List.all_map,List.all_cons,<- ih]; rfl
theorem range_any (bs:List Bool):(List.range bs.length).any (fun i=>bs.getD i true)=bs.any id:=by
 induction bs with
 | nil=>rfl
 | cons b bs ih=>rw [List.length_cons,List.range_succ_eq_map,List.any_cons,List.any_map,List.any_cons,<- ih]; rfl
noncomputable def blF (f:List Bool->Bool):F1
 | [.lst ds],Q=>(match W5 ds with | some bs=>Q (.bl (f bs)) | none=>False)
 | _,_=>False
noncomputable def JI:List V->Hp->VK->Prop:=fun xs H Q=>∃ a ns,xs=[.ref a]/\H a=some (.lst (ns.map V.int))/\ns.length<64 /\ ∀ ns':List Int,ns'.Perm ns->ns'.Pairwise (· <= ·) -> ∀ p,H p=none->Q (.ref p) (upd H p (.lst (ns'.map V.int)))
theorem oV:fK X (.builtin "sorted") JI:=by
 intro pins s σ H xs us Q I r h
 obtain ⟨a,ns,rfl,ha,h64,q⟩:=h
 obtain ⟨u,rfl,ru⟩:=vals1 r
 cases ru
 obtain ⟨its,rv,p,hz⟩:=I.list (fS.of ha)
 have hi:=intsAre_of rv
 have hlen:its.length=ns.length:=by have:=rv.length; rw [List.length_map] at this; exact this.symm
 refine sorted_ints p.isList hi (by omega) fun out ns' a1 a2 a3=>?_
 have hfr:H (s.heap.objs.size+1)=none:=I.hok.fresh (Nat.le_succ _)
 obtain ⟨e1,hat⟩:=sortedAll_at s.heap its out
 have hz2:ns'.length<=sizeLine:=by rw [a2.length_eq,sizeLine_eq]; omega
 have I1:Inv X pins σ (upd H (s.heap.objs.size+1) (.lst (ns'.map V.int))) { s with heap:=sortedAll s.heap its out } :=
  I.laid (t':=s.toks) (fun b o e=>sortedAll_old e) (Nat.le_succ _) ⟨by rw [List.length_map]; exact hz2,out.toList,e1,lP a1,by simpa [seqObj] using hat⟩
 exact ⟨.ref _,_,I1,rfl,q ns' a2 a3 _ hfr⟩
noncomputable def intsOf:List D->Option (List Int)
 | []=>some []
 | .int b::r=>(intsOf r).map (b :: ·)
 | _::_=>none
theorem fG:∀ bs:List Int,intsOf (bs.map D.int)=some bs
 | []=>rfl
 | b::bs=>by rw [List.map_cons,intsOf,fG bs]; rfl
theorem yI:∀ {ds:List D} {bs:List Int},intsOf ds=some bs->ds=bs.map D.int
 | [],bs,h=>by cases h; rfl
 | .int b::r,bs,h=>by
  rw [intsOf] at h
  cases q:intsOf r with
  | none=>rw [q] at h; cases h
  | some cs=>rw [q] at h; cases h; rw [List.map_cons,yI q]
 | .non::r,bs,h=>by cases h
 | .bl _::r,bs,h=>by cases h
 | .str _::r,bs,h=>by cases h
 | .tup _::r,bs,h=>by cases h
 | .lst _::r,bs,h=>by cases h
 | .nW _::r,bs,h=>by cases h
 | .iQ _ _::r,bs,h=>by cases h
 | .iH _ _ _::r,bs,h=>by cases h
noncomputable def QF:F1
 | [.lst ds],Q=>(match intsOf ds with | some ns=>ns.length<64 /\ ∀ ns':List Int,ns'.Perm ns->ns'.Pairwise (· <= ·)->Q (.lst (ns'.map D.int)) | none=>False)
 | _,_=>False
theorem U8 {K:PySem.W.Frag}:C3F K JI QF:=by
 intro S H xs ds Q3 Q fc hd hf k
 match ds,hf with
 | [.lst es],hf =>
  obtain ⟨v,r,rfl,h1,h2⟩:=hd.bR
  simp only [aR] at h2
  subst h2
  simp only [Dn] at h1
  obtain ⟨a,ys,rfl,ha,sa,da⟩:=h1
  have hf2:(match intsOf es with | some ns=>ns.length<64 /\ ∀ ns':List Int,ns'.Perm ns->ns'.Pairwise (· <= ·)->Q3 (.lst (ns'.map D.int)) | none=>False):=hf
  clear hf
  cases q:intsOf es with
  | none=>rw [q] at hf2; exact hf2.elim
  | some ns =>
   rw [q] at hf2
   have e:=yI q
   subst e
   have e2:=aR.ints.mp da
   subst e2
   exact ⟨a,ns,rfl,ha,hf2.1,fun ns' h1 h2 p hp=>k p _ _ _ hp aS (aK hp) (aR.ints.mpr rfl) (hf2.2 ns' h1 h2)⟩
theorem U9 {p pos:Pos} {e:Expr} {t:WA} (hm:X.mg "sorted" = none) (ha:BQ X [e] t) (hg:Gl X "sorted" := by rfl)
  (he:starEach [e] X.env=(false,eval e X.env)::starEach [] X.env:=by rfl):ED X (.Call (.Name "sorted" p) [e] [] pos) (R9 QF t):=JE oV U8 PyProof.Rows.boot_sorted hg hm ha (by decide) (by decide) he (by rfl)
end
section
variable {i j:Int} {a b:List D} {Q:D->Prop}
end
section
variable {X:Cx}
theorem LI {a:Expr} {ta:TA} {p pos:Pos} (hg:Gl X "range") (hm:X.mg "range" = none) (ha:PA X [a] ta) (hs:starEach [a] X.env=[(false,eval a X.env)]:=by rfl) :
  PE X (.Call (.Name "range" p) [a] [] pos) (fun σ H Q=>ta σ H fun vs H1=>∃ j:Int,vs=[.int j] /\ ∀ p,H1 p=none->Q (.ref p) (upd H1 p (.rng 0 j))):=by
 intro pins s σ H Q I h
 refine Call_ (qG I hg hm PyProof.Rows.boot_range (PyProof.Rows.callWith_type1 (eP (ha pos pins s σ H _ I h) fun us s1 ⟨vs,H1,I1,r1,q1⟩=>?_) hs rfl))
 obtain ⟨j,e,q⟩:=q1
 subst e
 obtain ⟨u,rfl,ru⟩:=vals1 r1
 obtain ⟨t,rfl⟩:=ru
 refine call_range_1 ?_
 exact ⟨.ref s1.heap.objs.size,_,I1.laid (o:=.rng 0 j) (fun b o e=>Heap.get?_push_of_some _ e) (Nat.le_refl _) ⟨_,_,_,Heap.get?_push_size _ rfl⟩,rfl,q _ (I1.hok.fresh (Nat.le_refl _))⟩
theorem QG {lo:Int} {n:Nat} {acc:Array Value} (h:ItemsOf (fun i v=>∃ t,v=.int (lo+(i:Nat)*1) t) acc n):Vals ((sQ lo n).map V.int) acc.toList:=by
 obtain ⟨hz,hv⟩:=h
 have key:∀ (l:List Value) (k:Nat) (m:Nat),l.length=m->(∀ (j:Nat) (v:Value),l[j]? = some v -> ∃ t,v=Value.int (lo+((k+j:Nat):Int)) t)->Vals (((List.range' k m).map fun i:Nat=>lo+(i:Int)).map V.int) l:=by
  intro l
  induction l with
  | nil=>intro k m hm _; subst hm; exact .nil
  | cons v l ih =>
   intro k m hm hh
   subst hm
   rw [List.length_cons,List.range'_succ,List.map_cons,List.map_cons]
   refine .cons ?_ (ih (k+1) l.length rfl fun j w e=>?_)
   ·obtain ⟨t,e⟩:=hh 0 v (by simp)
    exact ⟨t,by simpa using e⟩
   ·obtain ⟨t,e2⟩:=hh (j+1) w (by simpa using e)
    exact ⟨t,by rw [e2]; congr 1; congr 1; congr 1; omega⟩
 have:=key acc.toList 0 n (by simpa using hz) fun j v e=>by
  obtain ⟨t,e2⟩:=hv j v (by simpa using e)
  exact ⟨t,by rw [e2]; simp⟩
 unfold sQ
 rw [List.range_eq_range']
 exact this
theorem xB (hc:X.calm=true):fK X (.type "list") (fun xs H Q=>∃ p j,xs=[.ref p]/\H p=some (.rng 0 j) /\ -(2 ^ 62)<=j/\j<=16777216 /\ ∀ l,H l=none->Q (.ref l) (upd H l (.lst ((sQ 0 j.toNat).map V.int)))):=by
 intro pins s σ H xs us Q I r h
 obtain ⟨p,j,rfl,hp,h0,h1,q⟩:=h
 obtain ⟨u,rfl,ru⟩:=vals1 r
 cases ru
 obtain ⟨t,u,v,e⟩:=I.hok p _ hp
 have hsz:Builtin.Range.rangeSize 0 j 1=(j.toNat:Int):=by rw [rangeSize_one]; split<;>omega
 refine call_list_range (a:=0) (b:=j) (c:=1) (n:=j.toNat) (I.ok.hd hc) e (small_one (by omega) (by omega) (by omega) (by omega)) hsz (by omega) fun h' tk acc' c' kp hn hit=>?_
 have hfr:H s.heap.objs.size=none:=I.hok.fresh (Nat.le_refl _)
 have hv:Vals ((sQ 0 j.toNat).map V.int) acc'.toList:=QG hit
 refine ⟨.ref s.heap.objs.size,_,I.laid (o:=.lst ((sQ 0 j.toNat).map V.int)) kp (Nat.le_refl _) ⟨?_,acc'.toList,c',hv,by simpa using hn⟩,rfl,q _ hfr⟩
 rw [List.length_map,rV,sizeLine_eq]
 omega
noncomputable def Z6 (t:WA):WE:=fun ρ Q=>t ρ fun ds=>match ds with
 | [.int j]=>(-(2 ^ 62)<=j/\j<=16777216)/\Q (.lst ((sQ 0 j.toNat).map D.int))
 | _=>False
theorem GH {a:Expr} {t:WA} {p pos p2 pos2:Pos} (hc:X.calm=true) (hm:X.mg "list" = none) (hmr:X.mg "range" = none) (ha:BQ X [a] t) (hg:Gl X "list" := by rfl) (hgr:Gl X "range" := by rfl) (hs:starEach [a] X.env=[(false,eval a X.env)]:=by rfl)
  (he:starEach [.Call (.Name "range" p2) [a] [] pos2] X.env=(false,eval (.Call (.Name "range" p2) [a] [] pos2) X.env)::starEach [] X.env:=by rfl) :
  ED X (.Call (.Name "list" p) [.Call (.Name "range" p2) [a] [] pos2] [] pos) (Z6 t) :=
 imp (qJ (xB hc) hg hm PyProof.Rows.boot_list (gO (LI hgr hmr ha hs) kP he) (by decide) (by decide) he (by rfl)) fun σ H Q aGy=>by
  obtain ⟨S,ρ,Q3,fc,sl,ht,k⟩:=aGy
  refine ⟨S,ρ,_,fc,sl,ht,fun vs H1 ds s1 d1 q1=>?_⟩
  split at q1
  ·rename_i j
   obtain ⟨v,r,rfl,h1,h2⟩:=d1.bR
   simp only [aR] at h2
   subst h2
   simp only [Dn] at h1
   subst h1
   refine ⟨j,rfl,fun p hp=>⟨p,j,rfl,aS,q1.1.1,q1.1.2,fun l hl=>?_⟩⟩
   have hl1:H1 l=none:=(aK hp).free hl
   exact k l _ _ _ (s1.free hl1) aS ((s1.trans (aK hp)).trans (aK hl)) (aR.ints.mpr rfl) q1.2
  ·exact q1.elim
noncomputable def iY (ks:List Key) (ds:List D) (k:Key):Option D:=((ks.zip ds).find? fun kv=>decide (kv.1=k)).map (·.2)
theorem u5 {K:PySem.W.Frag} {S:Addr->Prop} {H:Hp} {k:Key}:∀ {ks:List Key} {ds:List D} {xs:List V},ks.length=xs.length->aR K S H ds xs ->
  (∀ d,iY ks ds k=some d -> ∃ v,fT (ks.zip xs) k=some v/\Dn K S H d v)/\(iY ks ds k=none->fT (ks.zip xs) k=none)
 | [],ds,xs,_,_=>by
  refine ⟨fun d e=>?_,fun _=>?_⟩
  ·simp [iY] at e
  ·simp [fT]
 | q::ks,ds,xs,hl,dn=>by
  cases ds with
  | nil=>simp only [aR] at dn; subst dn; simp at hl
  | cons d0 ds =>
   obtain ⟨v,r,rfl,h1,h2⟩:=dn.bR
   have ih:=u5 (k:=k) (ks:=ks) (ds:=ds) (xs:=r) (by simpa using hl) h2
   by_cases e:q=k
   ·refine ⟨fun d ed=>?_,fun ed=>?_⟩
    ·simp only [iY,List.zip_cons_cons,List.find?_cons,e,decide_true,Option.map_some] at ed
     cases ed
     exact ⟨v,by simp [fT,e],h1⟩
    ·simp [iY,e] at ed
   ·refine ⟨fun d ed=>?_,fun ed=>?_⟩
    ·have ed':iY ks ds k=some d:=by simpa [iY,e] using ed
     obtain ⟨u,eu,du⟩:=ih.1 d ed'
     exact ⟨u,by simpa [fT,e] using eu,du⟩
    ·have ed':iY ks ds k=none:=by simpa [iY,e] using ed
     simpa [fT,e] using ih.2 ed'
theorem QH {i:Nat} {x:Str} {pos pos' p:Pos} (hN:X.N.Nodup) (hi:X.N[i]? = some x:=by rfl) (hx:Loc X.env.scope x:=by first | exact .inl rfl | exact .inr rfl) (hs:swapsWith (.Dict [] [] p) (some (.Name x pos')) pos.line X.env=pure false:=by rfl) (hf:X.fn x=true\/X.env.scope.names.lookup x=some .local:=by first | exact .inl rfl | exact .inr rfl) :
  GA X (.Assign [.Name x pos'] (.Dict [] [] p) pos) (fun E ρ=>E.nx (ρ.set i (.ow (.iQ [] [])))):=qM (uQ hN hi hx PK hs hf) fun B σ H ⟨H₀,S,w,ρ,G,E,hl,st,ht,ok⟩=>fun p hp =>
 ok.nx _ _ _ _ (by rw [List.length_set]; exact hl) (st.FV (d:=.iQ [] []) (by rw [hl]; exact kW hi) (aK hp) hp ⟨[],aS,rfl,aR.nil⟩) ht
noncomputable def CY:D->Option Key
 | .int i=>some (.inl i)
 | .str x=>some (.inr x)
 | _=>none
theorem QI {K:PySem.W.Frag} {S:Addr->Prop} {H:Hp} {d:D} {v:V} {k:Key} (h:Dn K S H d v) (e:CY d=some k):v=kV k:=by
 cases d<;>simp only [CY] at e<;>cases e<;>simp only [Dn] at h<;>exact h
noncomputable def Z7:F2:=fun x y Q=>match x,CY y with
 | .iQ ks ds,some k=>(match iY ks ds k with | some d=>Q d | none=>False)
 | _,_=>False
theorem aGz {o i:Expr} {pos:Pos} {to ti:WE} (hu:X.A.units+1<cLine) (ho:cD X o to) (hi:cD X i ti) (hs:UN i:=by intro _ _; rfl):cD X (.Subscript o i pos) (gE Z7 to ti):=imp (UP hu ho hi hs) fun σ H Q aHA=>by
 obtain ⟨S,ρ,Q3,fc,sl,ht,k⟩:=aHA
 refine ⟨S,ρ,_,fc,sl,ht,fun v H1 d s1 d1 q1=>?_⟩
 refine ⟨S,ρ,_,aW fc s1,Sl.fits (.same s1) sl,q1,fun u H2 d2 s2 NB q2=>?_⟩
 unfold Z7 at q2
 split at q2
 ·rename_i ks ds kk ek
  have d1':=Dn.fits (.same s2) _ _ d1
  simp only [Dn] at d1'
  obtain ⟨a,xs,rfl,ha,sa,hl,da⟩:=d1'
  split at q2
  ·rename_i d3 e3
   obtain ⟨v3,ev,dv⟩:=(u5 hl da).1 d3 e3
   have eu:=QI NB ek
   subst eu
   refine ⟨a,v3,rfl,?_,k v3 H2 d3 (s1.trans s2) dv q2⟩
   have g:=CQ.k (k:=kk) ha
   rw [ev] at g
   exact g
  ·exact q2.elim
 ·exact q2.elim
noncomputable def aC0 (i:Nat) (t:WX) (tk:WE):WS:=fun E ρ=>t ρ fun ρ' d=>(match ρ'[i]? with | some (.ow (.iQ _ _))=>True | _=>False)/\tk (bQ ρ') fun kd=>match ρ'[i]?,CY kd with
 | some (.ow (.iQ ks ds)),some k=>(iY ks ds k=none/\ds.length<sizeLine)/\E.nx (ρ'.set i (.ow (.iQ (ks++[k]) (ds++[d]))))
 | _,_=>False
theorem aC1 {i:Nat} {x:Str} {e k:Expr} {t:WX} {tk:WE} {pos pos' p:Pos} (hu:X.A.units+1<cLine) (he:GB X e t) (hk:cD X k tk)
  (hN:X.N[i]? = some x:=by rfl) (hv:FE X.env.scope x:=by first | exact Or.inl rfl | exact Or.inr (Or.inl rfl) | exact Or.inr (Or.inr rfl)) (hd:(x == ("__debug__" : Str))=false:=by decide) (hcd:(x == ("__classdict__" : Str))=false:=by decide)
  (hs:swapsWith e (some (.Subscript (.Name x p) k pos')) pos.line X.env=pure false:=by rfl) :
  GA X (.Assign [.Subscript (.Name x p) k pos'] e pos) (aC0 i t tk):=qM (UQ hu (AG hN hv hd hcd) hk he hs) fun B σ H aHB=>by
 obtain ⟨H₀,S,w,ρ,G,E,hl,st,ht,ok⟩:=aHB
 refine ⟨H₀,S,w,ρ,G,_,hl,st,ht,fun w' v H' ρ' d st' d' q'=>?_⟩
 obtain ⟨q0,q'⟩:=q'
 split at q0
 ·rename_i ks0 ds0 e0
  obtain ⟨a0,_,_⟩:=st'.own i _ e0
  refine ⟨_,a0,S,bQ ρ',_,st'.PM,st'.all,q',fun kv H2 dk s2 dk2 q2=>?_⟩
  split at q2
  ·rename_i ks ds kk e1 ek
   have st2:=st'.same s2
   obtain ⟨a,b,c⟩:=st2.own i _ e1
   obtain ⟨xs,hp,hlen,dn⟩:=c
   have eu:=QI dk2 ek
   subst eu
   have hno:=(u5 (k:=kk) hlen dn).2 q2.1.1
   have nS:¬ SO S w' ρ' (w' i):=fun ⟨_,z⟩=>z i _ e1 rfl
   have hz:(ks.zip xs).length<sizeLine:=by
    rw [List.length_zip,hlen,Nat.min_self,<- dn.len]; exact q2.1.2
   have aHC:putK (ks.zip xs) kk v=(ks++[kk]).zip (xs++[v]):=by
    rw [PC v hno,List.zip_append hlen]; rfl
   have F:Fits X.K (SO S w' ρ') (SO S w' ρ') H2 (upd H2 (w' i) (.dK (putK (ks.zip xs) kk v))):=.upd (.inr (.inl ⟨_,hp⟩)) nS
   refine ⟨w' i,_,rfl,FU.k hp hz,ok.nx w' σ _ _ hl (st2.write (d':=.iQ (ks++[kk]) (ds++[d])) e1 ⟨xs++[v],?_,by simp [hlen],aR.fits F _ _ (dn.append (aR.one (Dn.fits (.same s2) _ _ d')))⟩) q2.2⟩
   rw [aS,aHC]
  ·exact q2.elim
 ·exact q0.elim
noncomputable def aC2 (i:Nat) (t:WE):WS:=fun E ρ=>t (bQ ρ) fun d=>(match d with | .lst ds=>nX ds=true | _=>False)/\E.nx (ρ.set i (.ro d))
theorem aC3 {i:Nat} {x:Str} {e:Expr} {t:WE} {pos pos':Pos} (hN:X.N.Nodup) (he:ED X e t) (hi:X.N[i]? = some x:=by rfl) (hx:Loc X.env.scope x:=by first | exact .inl rfl | exact .inr rfl) (hs:swapsWith e (some (.Name x pos')) pos.line X.env=pure false:=by rfl) (hf:X.fn x=true\/X.env.scope.names.lookup x=some .local:=by first | exact .inl rfl | exact .inr rfl) :
  GA X (.Assign [.Name x pos'] e pos) (aC2 i t):=qM (uQ hN hi hx he hs hf) fun B σ H aHD=>by
 obtain ⟨H₀,S,w,ρ,G,E,hl,st,ht,ok⟩:=aHD
 exact ⟨_,bQ ρ,_,st.PM,st.all,ht,fun p xs H' ds hp hp' s' d' q'=>ok.nx w _ H' _ (by rw [List.length_set]; exact hl) ((st.same s').uV (d:=.lst ds) (by rw [hl]; exact kW hi) (by simp only [Dn]; exact ⟨p,xs,rfl,hp',st.ZH p hp,aR.tJ q'.1 d'⟩)) q'.2⟩
noncomputable def Z8:List D->D->(List D->D->Prop)->Prop
 | ds,.lst es,Q=>ds.length+es.length<=sizeLine/\Q (ds++es) .non
 | _,_,_=>False
theorem Z9 {K:PySem.W.Frag}:M3 K JA Z8:=by
 intro S H p xs ds y d Q3 Q hp dn dy hf k
 cases d with
 | lst es =>
  simp only [Dn] at dy
  obtain ⟨b,zs,rfl,hb,sb,db⟩:=dy
  exact ⟨p,b,xs,zs,rfl,rfl,hp,hb,by rw [<- dn.len,<- db.len]; exact hf.1,k _ _ _ _ (dn.append db) (by simp only [Dn]) hf.2⟩
 | _=>exact hf.elim
section
variable {i:Nat} {x:Str} {e:Expr} {p apos cpos:Pos} {t:WX}
theorem VA (he:GB X e t) (hN:X.N[i]? = some x:=by rfl) (hv:FE X.env.scope x:=by first | exact Or.inl rfl | exact Or.inr (Or.inl rfl) | exact Or.inr (Or.inr rfl)) (hd:(x == ("__debug__" : Str))=false:=by decide) (hcd:(x == ("__classdict__" : Str))=false:=by decide)
  (hbase:attributeBase (.Name x p) "extend" X.env (eval (.Name x p) X.env)=eval (.Name x p) X.env:=by rfl)
  (hfew:((backTo cpos (starEach [e] X.env)).all (fun x=>!x.1)&&(backToKw cpos (keywordEach [] X.env)).all (fun x=>x.1.isSome)
   && decide ([e].length+([]:List Keyword).length+(if ([]:List Keyword).isEmpty then 0 else 1)<30))=true:=by rfl)
  (hline:(apos.endLine == cpos.line)=true:=by rfl) (hs:starEach [e] X.env=(false,eval e X.env)::starEach [] X.env:=by rfl) :
  GB X (.Call (.Attribute (.Name x p) "extend" apos) [e] [] cpos) (wM1 i Z8 t):=m1 PySem.F.slot_list_extend PySem.F.type_list_extend K4 Z9 he hN hv hd hcd hbase hfew hline hs
end
end
section
variable {X:Cx} {pins:List (Addr×Obj)} {σ:L2.St} {H:Hp} {s:Shared} {h':Heap}
theorem turnT {t':Nat} {ch:List Addr} {T:Addr} {xs:List V} {its:List Value} (I:Inv X pins σ H s) (k:∀ b o,b∉ch->s.heap.get? b=some o->h'.get? b=some o) (hf:∀ b∈ch,lY X pins H b)
  (hT:s.heap.objs.size<=T) (hv:Vals xs its) (hz:xs.length<=sizeLine) (ht:IsTup h' T its.toArray) (nd:CI h' T):Inv X pins σ (upd H T (.tup xs)) { s with heap:=h',toks:=t' }:=by
 have fr:H T=none:=I.hok.fresh hT
 have nT:∀ {b:Addr} {o:Obj},s.heap.get? b=some o->b≠T:=fun {b} {o} e z=>Nat.lt_irrefl _ (Nat.lt_of_lt_of_le (Heap.lt_size e) (z▸hT))
 have live:∀ {b:Addr} {u:HO},H b=some u->b∉ch:=fun {b} {u} e z=>by rw [(hf _ z).1] at e; cases e
 refine I.call' (s':={ s with heap:=h',toks:=t' }) (ch:=ch) rfl ⟨fun b o e _ _ hx=>k b o hx e,fun b o e _ _ hx=>⟨o.slots,k b o hx e⟩,fun b o e n _=>by rw [aO (nT e)]; exact n,fun b o e hx=>⟨o,k b o hx e⟩,
  fun b ys e=>by rw [aO (bI e fr)]; exact e,fun b o u e=>by rw [aO (bI e fr)]; exact e,fun b ps e=>by rw [aO (bI e fr),e]⟩ ?_ I.bare fun b hb=>?_
 ·intro b u e
  by_cases hb:b=T
  ·subst hb; rw [aS] at e; cases e; exact ⟨hz,its,hv,ht,nd⟩
  ·rw [aO hb] at e
   refine (I.hok b u e).stay (fun c v hc q=>k c v ?_ q) (fun c q=>by rw [aO (bI q fr)]; exact q) (fun c ys q=>by rw [aO (bI q fr)]; exact q) fun c o u q=>by rw [aO (bI q fr)]; exact q
   rcases hc with rfl | hc
   ·exact live e
   ·exact live hc
 ·obtain ⟨_,f1,_,f3,f4,f5⟩:=hf b hb
  exact ⟨f3,f1,f4,f5⟩
theorem CZ {t':Nat} {ch:List Addr} (I:Inv X pins σ H s) (k:∀ b o,b∉ch->s.heap.get? b=some o->h'.get? b=some o) (hf:∀ b∈ch,lY X pins H b):Inv X pins σ H { s with heap:=h',toks:=t' }:=by
 have live:∀ {b:Addr} {u:HO},H b=some u->b∉ch:=fun {b} {u} e z=>by rw [(hf _ z).1] at e; cases e
 refine I.call' (s':={ s with heap:=h',toks:=t' }) (ch:=ch) rfl ⟨fun b o e _ _ hx=>k b o hx e,fun b o e _ _ hx=>⟨o.slots,k b o hx e⟩,fun b o e n _=>n,fun b o e hx=>⟨o,k b o hx e⟩,
  fun b ys e=>e,fun b o u e=>e,fun b ps e=>e⟩ ?_ I.bare fun b hb=>?_
 ·intro b u e
  refine (I.hok b u e).stay (fun c v hc q=>k c v ?_ q) (fun c q=>q) fun c ys q=>q
  rcases hc with rfl | hc
  ·exact live e
  ·exact live hc
 ·obtain ⟨_,f1,_,f3,f4,f5⟩:=hf b hb
  exact ⟨f3,f1,f4,f5⟩
end
noncomputable def Itp (go:Nat->Hp->Prop) (Y:Nat->Hp->List V->Prop) (stop:Nat->Hp->Prop):It:=⟨go,fun i H x H'=>∃ T vs,x=.ref T/\H T=none/\H' = upd H T (.tup vs)/\Y i H vs,stop⟩
noncomputable def QJ (P:Program) (w:World) (A:Around) (it:Addr) (wr:List Addr) (n:Nat) (Pt:Nat->Array Value->Prop) (St:Nat->Heap->Prop) (Mid:Nat->Addr->Heap->Prop):Prop :=
 ∀ i (s:Shared) (Q:Option Value->Shared->Prop) (E:Value->Shared->Prop),i<n->St i s.heap ->
  (∀ T vals h' tk,Pt i vals->s.heap.objs.size<=T->h'.IsTuple T vals->CI h' T->Mid i T h'->(∀ b o,b∉wr->s.heap.get? b=some o->h'.get? b=some o)->Q (some (.ref T)) { s with heap:=h',toks:=tk }) ->
  wpAny (model P w) A (pyNext (.ref it)) Q E s
theorem u6 {P:Program} {w:World} {K:PySem.W.Frag} {es:List Expr} {kk:Nat} {tp:Pos} {go:Nat->Hp->Prop} {Y:Nat->Hp->List V->Prop} {stop:Nat->Hp->Prop} {fp:List Addr} {it:Addr} {tn:Nat->Heap->Prop} (mem:it∈fp)
  (obj:∀ i h,tn i h -> ∀ b∈fp,∃ o,h.get? b=some o /\ ∀ v,o.data≠.cell v) (keep:∀ i h h',tn i h->(∀ b∈fp,∀ o,h.get? b=some o->h'.get? b=some o)->tn i h')
  (wk:∀ (X:Cx),X.prog=P->X.w=w->X.K=K->X.calm=true -> ∀ (i:Nat) (pins:List (Addr×Obj)) (s:Shared) (σ:L2.St) (H:Hp),Inv X pins σ H s->tn i s.heap->go i H\/stop i H ->
   ∃ fp2 wr n Pt St Mid,(WalksT P w X.A it fp2 wr n Pt St Mid/\QJ P w X.A it wr n Pt St Mid)/\St i s.heap/\(∀ b∈wr,b∈fp)/\(∀ h,St (i+1) h->tn (i+1) h) /\
    (go i H->i<n /\ ∀ vals,Pt i vals -> ∃ vs,vs.length<=sizeLine/\Vals vs vals.toList/\Y i H vs)/\(stop i H->i=n))
  (self:∀ (A:Around) (i:Nat) (s:Shared) (Q:Value->Shared->Prop) (E:Value->Shared->Prop),tn i s.heap->Q (.ref it) s->wpAny (model P w) A (pyIter (.ref it)) Q E s) :
  Turn P w K (.Tuple es kk tp) (Itp go Y stop) fp it tn where
 mem:=mem
 obj:=obj
 keep:=keep
 self:=self
 item:=by
  intro X hP hw hK hc i pins s σ H E I hf st hg
  obtain ⟨fp2,wr,n,Pt,St,Mid,⟨W,J2⟩,hs,sub,nx,ok,_⟩:=wk X hP hw hK hc i pins s σ H I st (.inl hg)
  obtain ⟨hi,ok⟩:=ok hg
  refine J2 i s _ _ hi hs fun T vals h1 tk hp hT ht nd hm k1=>⟨.ref T,rfl,W.go es kk tp i T _ _ _ hm fun h2 s2 k2=>?_⟩
  obtain ⟨vs,hz,hv,hy⟩:=ok vals hp
  obtain ⟨o,eo,c,d⟩:=ht
  have ht2:IsTup h2 T vals.toList.toArray:=⟨o,k2 T o (W.apart i T _ hm) eo,c,by simpa using d⟩
  have I2:Inv X pins σ (upd H T (.tup vs)) { s with heap:=h2,toks:=tk }:=turnT (t':=tk) (ch:=wr) I (fun b o hb e=>k2 b o hb (k1 b o hb e)) (fun b hb=>hf b (sub b hb)) hT hv hz ht2 (nd.at eo (k2 T o (W.apart i T _ hm) eo))
  refine ⟨.ref T,upd H T (.tup vs),I2,rfl,⟨T,vs,rfl,I.hok.fresh hT,rfl,hy⟩,nx h2 s2,fun b hb=>?_⟩
  obtain ⟨ob,eb,_⟩:=obj _ _ st b hb
  have nb:b≠T:=fun z=>Nat.lt_irrefl _ (Nat.lt_of_lt_of_le (Heap.lt_size eb) (z▸hT))
  rw [aO nb]
  exact (hf b hb).1
 done:=by
  intro X hP hw hK hc i pins s σ H E I hf st hg
  obtain ⟨fp2,wr,n,Pt,St,Mid,⟨W,_⟩,hs,sub,nx,_,ok⟩:=wk X hP hw hK hc i pins s σ H I st (.inr hg)
  obtain rfl:=ok hg
  exact W.done s _ _ hs fun h2 tk k2=>⟨rfl,CZ (t':=tk) (ch:=wr) I k2 fun b hb=>hf b (sub b hb)⟩
noncomputable def Iel (K:PySem.W.Frag) (l:Addr):It:=Itp (fun i H=>∃ xs v,fS K H l xs/\xs[i]? = some v) (fun i H vs=>∃ v,vs=[.int i,v] /\ ∀ xs,fS K H l xs->xs[i]? = some v) (fun i H=>∃ xs,fS K H l xs/\xs.length=i)
noncomputable def Iet (K:PySem.W.Frag) (l:Addr):It:=Itp (fun i H=>∃ xs v,fU K H l xs/\xs[i]? = some v) (fun i H vs=>∃ v,vs=[.int i,v] /\ ∀ xs,fU K H l xs->xs[i]? = some v) (fun i H=>∃ xs,fU K H l xs/\xs.length=i)
theorem C0:[V.int 0,V.int 0].length<=sizeLine:=by rw [sizeLine_eq]; decide
theorem C4 {prog:Program} {w:World} {A:Around} (e it l:Addr) (hei:e≠it) (hle:l≠e) (hli:l≠it) (items:Array Value):QJ prog w A e [e,it] items.size (fun i vals=>∃ t x,items[i]? = some x/\vals=#[.int i t,x])
  (fun i h=>(∃ old,IsEnum h e it i old)/\h.IsListIter it l i/\h.IsList l items) (fun i T h=>(∃ x,IsEnumOut h e it ((i:Int)+1) x T)/\h.IsListIter it l (i+1)/\h.IsList l items/\T≠e/\T≠it):=by
 intro i s Q E hi ⟨⟨old,a1⟩,a2,a3⟩ q
 have ix:items[i]? = some items[i]:=Array.getElem?_eq_getElem hi
 refine wpAny_pyNext_enum_item a1 a2 a3 ix hei fun g b1 b2 b3 _ kp=>?_
 have l1:e<s.heap.objs.size:=Heap.lt_size a1
 have l2:it<s.heap.objs.size:=by obtain ⟨_,y,_⟩:=a2; exact Heap.lt_size y
 refine q s.heap.objs.size #[.int i s.toks,items[i]] g (s.toks+1) ⟨_,_,ix,rfl⟩ (Nat.le_refl _) ⟨_,b3,rfl,_,rfl⟩ (CI.is b3 rfl) ⟨⟨_,b1⟩,b2,a3.at fun o y=>kp l o hle hli y,Nat.ne_of_gt l1,Nat.ne_of_gt l2⟩ fun b o hb y=>?_
 simp only [List.mem_cons,List.not_mem_nil,or_false,not_or] at hb
 exact kp b o hb.1 hb.2 y
theorem C5 {prog:Program} {w:World} {A:Around} {it:Addr} {fp:List Addr} {n:Nat} {P:Nat->Value->Prop} {St:Nat->Heap->Prop} (D:Draws prog w A.in1 it fp n P St) (e:Addr) (hei:e≠it) (hef:e∉fp) :
  QJ prog w A e [e,it] n (fun i vals=>∃ t x,P i x/\vals=#[.int i t,x]) (fun i h=>(∃ old,IsEnum h e it i old)/\St i h) (fun i T h=>(∃ x,IsEnumOut h e it ((i:Int)+1) x T)/\St (i+1) h/\T≠e/\T≠it):=by
 intro i s Q E hi ⟨⟨old,a1⟩,a2⟩ q
 refine wpAny_pyNext_enum_itemD D a1 a2 hi hei hef fun x g tk px b1 b2 b3 _ kp=>?_
 have l1:e<s.heap.objs.size:=Heap.lt_size a1
 have l2:it<s.heap.objs.size:=by obtain ⟨_,y⟩:=D.live _ _ a2; exact Heap.lt_size y
 refine q s.heap.objs.size #[.int i tk,x] g (tk+1) ⟨_,_,px,rfl⟩ (Nat.le_refl _) ⟨_,b3,rfl,_,rfl⟩ (CI.is b3 rfl) ⟨⟨_,b1⟩,b2,Nat.ne_of_gt l1,Nat.ne_of_gt l2⟩ fun b o hb y=>?_
 simp only [List.mem_cons,List.not_mem_nil,or_false,not_or] at hb
 exact kp b o hb.1 hb.2 y
theorem GI {P:Program} {w:World} {K:PySem.W.Frag} {es:List Expr} {kk:Nat} {tp:Pos} {e it l:Addr} (hei:e≠it) (hle:l≠e) (hli:l≠it) :
  Turn P w K (.Tuple es kk tp) (Iel K l) [e,it] e (fun i h=>(∃ old,IsEnum h e it i old)/\h.IsListIter it l i):=by
 refine u6 (by simp) (fun i h st b hb=>?_) (fun i h h2 st k=>?_) (fun X hP hw hK hc i pins s σ H I st hg=>?_) (fun A i s Q E st q=>?_)
 ·obtain ⟨⟨old,a⟩,o,c,d1,d2⟩:=st
  rcases List.mem_cons.mp hb with rfl | hq
  ·exact ⟨_,a,fun v z=>by cases z⟩
  ·rw [List.mem_singleton.mp hq]; exact ⟨o,c,fun v z=>by rw [d2] at z; cases z⟩
 ·obtain ⟨⟨old,a⟩,b⟩:=st
  exact ⟨⟨old,k e (by simp) _ a⟩,b.at fun o q=>k it (by simp) o q⟩
 ·subst hP hw hK
  have hq:∃ xs,fS X.K H l xs:=by rcases hg with ⟨xs,_,a,_⟩ | ⟨xs,a,_⟩<;>exact ⟨xs,a⟩
  obtain ⟨xs,hq⟩:=hq
  obtain ⟨its,rv,p,hz⟩:=I.list hq
  have hl:=rv.length
  refine ⟨_,_,_,_,_,_,⟨WalksT.enumerate (I.ok.hd hc) e it l hei hle hli its.toArray,C4 e it l hei hle hli its.toArray⟩,⟨st.1,st.2,p.isList⟩,fun b hb=>hb,fun h q=>⟨q.1,q.2.1⟩,fun g=>?_,fun g=>?_⟩
  ·obtain ⟨ys,v,hy,hv⟩:=g
   obtain rfl:=I.oJ hy hq
   obtain ⟨u,hu,ru⟩:=rv.get hv
   have hlt:i<ys.length:=(List.getElem?_eq_some_iff.mp hv).1
   refine ⟨by rw [List.size_toArray,<- hl]; exact hlt,fun vals q=>?_⟩
   obtain ⟨t,x,hx,rfl⟩:=q
   have ex:x=u:=by
    have:its[i]? = some x:=by simpa using hx
    rw [hu] at this; exact (Option.some.inj this).symm
   subst ex
   exact ⟨[.int i,v],C0,.cons ⟨t,rfl⟩ (.cons ru .nil),v,rfl,fun zs hzs=>by rw [I.oJ hzs hq]; exact hv⟩
  ·obtain ⟨ys,hy,e2⟩:=g
   obtain rfl:=I.oJ hy hq
   rw [List.size_toArray,<- hl,e2]
 ·obtain ⟨⟨old,a⟩,b⟩:=st
  exact wpAny_pyIter_enum a q
section
variable {prog:Program} {w:World} {A:Around} {E:Value->Shared->Prop} {s:Shared}
theorem QK {it t:Addr} {i:Nat} {items:Array Value} {x:Value} {Q:Value->Shared->Prop} (hit:s.heap.IsTupleIter it t i) (ht:s.heap.IsTuple t items) (hx:items[i]? = some x)
  (hQ:∀ h',h'.IsTupleIter it t (i+1)->Heap.SameBut it s.heap h'->Q x { s with heap:=h' }):wpAny (model prog w) A (Builtin.SmallTypes.nextOf (.ref it)) Q E s:=by
 obtain ⟨⟨ol,hol,_,nl,hdl⟩,o,ho,hc,hd⟩:=And.intro ht hit
 refine wpAny_bind (m:=callSpecial? _ _) (wpAny_callSpecial?_slot hit.typeIs F.slot_tuple_iterator_next (wpAny_call_entry F.slot_tuple_iterator_next hit.typeIs F.entry_tuple_iterator_next ?_ (F.args_tuple_iterator_next_1 _)))
 refine wpAny_bind (m:=field _ 0) (wpAny_field ho hd (x:=.ref t) rfl ?_)
 show wpAny _ _ (if false=true then _ else _) _ _ s
 rw [if_neg Bool.false_ne_true]
 refine wpAny_bind (m:=field _ 1) (wpAny_field ho hd (x:=.int i 0) rfl (wpAny_bind (m:=seqItems? _) (wpAny_seqItems hol hdl ?_)))
 simp only [hx,Int.toNat_natCast]
 refine wpAny_bind (wpAny_setField ho hd (by simp) (wpAny_pure ⟨x,rfl,wpAny_pure (hQ _ ⟨_,Heap.get?_update_self _ ho (Obj.isFreed_of_fields (Obj.data_mapFields hd _)),(Obj.cls_mapFields ..).trans hc,?_⟩ (Heap.SameBut.update ..))⟩))
 rw [Obj.data_mapFields hd]
 simp [rawInt]
theorem LJ {it t:Addr} {i:Nat} {items:Array Value} {Q:Value->Shared->Prop} (hh:A.handled=none) (hit:s.heap.IsTupleIter it t i) (ht:s.heap.IsTuple t items) (hx:items[i]? = none)
  (hE:∀ h' e,Heap.ExtBut it s.heap h'->(∃ o,h'.get? e=some o/\o.cls=.type "StopIteration")->E (.ref e) { s with heap:=h' }):wpAny (model prog w) A (Builtin.SmallTypes.nextOf (.ref it)) Q E s:=by
 obtain ⟨⟨ol,hol,_,nl,hdl⟩,o,ho,hc,hd⟩:=And.intro ht hit
 refine wpAny_bind (m:=callSpecial? _ _) (wpAny_callSpecial?_slot hit.typeIs F.slot_tuple_iterator_next (wpAny_call_entry F.slot_tuple_iterator_next hit.typeIs F.entry_tuple_iterator_next ?_ (F.args_tuple_iterator_next_1 _)))
 refine wpAny_bind (m:=field _ 0) (wpAny_field ho hd (x:=.ref t) rfl ?_)
 show wpAny _ _ (if false=true then _ else _) _ _ s
 rw [if_neg Bool.false_ne_true]
 refine wpAny_bind (m:=field _ 1) (wpAny_field ho hd (x:=.int i 0) rfl (wpAny_bind (m:=seqItems? _) (wpAny_seqItems hol hdl ?_)))
 simp only [hx,Int.toNat_natCast]
 refine wpAny_bind (wpAny_rule (wpAny_bind (m:=setField _ _ _) (wpAny_setField ho hd (by simp) ?_)))
 have hh2:A.in1.handled=none:=hh
 wp_walk
 unfold raiseNew
 apply wpAny_bind
 apply wpAny_handled
 rw [hh2]
 exact wpAny_bind (wpAny_pure (wpAny_throw (hE _ _ (((Heap.SameBut.update ..).extBut.push _).push _) ⟨_,Heap.get?_push_size _ rfl,rfl⟩)))
theorem aAB (hh:A.handled=none) (it t:Addr) (hne:t≠it) (items:Array Value):Draws prog w A it [it,t] items.size (fun i v=>items[i]? = some v) (fun i h=>h.IsTupleIter it t i/\h.IsTuple t items) where
 live:=fun i h st=>by obtain ⟨⟨o,ho,_⟩,_⟩:=st; exact ⟨o,ho⟩
 frame:=fun i h h' st k=>by
  obtain ⟨⟨o,ho,r⟩,o2,ho2,r2⟩:=st
  exact ⟨⟨o,k it (by simp) o ho,r⟩,o2,k t (by simp) o2 ho2,r2⟩
 item:=fun i s Q E hi st q=>QK st.1 st.2 (x:=items[i]) (Array.getElem?_eq_getElem hi) fun h' a b=>q _ h' s.toks (Array.getElem?_eq_getElem hi) ⟨a,st.2.extBut b.extBut hne⟩ b
 done:=fun s Q E st q=>LJ hh st.1 st.2 (Array.getElem?_eq_none (Nat.le_refl _)) q
theorem LK (l:Addr) (items:Array Value):Meets (Builtin.«enumerate.__new__» ⟨[.type "enumerate",.ref l],[]⟩) (fun _ R s=>s.heap.IsTuple l items /\
  R (.ok (.ret (.ref (s.heap.push { cls:=.type "tuple_iterator",data:=.fields #[.ref l,.int 0 0] }).objs.size))) { s with heap:=(s.heap.push { cls:=.type "tuple_iterator",data:=.fields #[.ref l,.int 0 0] }).push { cls:=.type "enumerate",data:=.fields #[.none,.bool false,.ref s.heap.objs.size,rawInt 0,.none,.none] } }):=by
 refine .of_wp fun p0 w0 A0 R0 s h=>?_
 obtain ⟨hl,h⟩:=h
 obtain ⟨hp0,g0,d,tk,os⟩:=s
 have hsub:=sub_enumerate
 wp_walk using wpAny_pyIter_tuple hl
 refine wpAny_stack_any fun _=>wpAny_pure ?_
 split<;>first
  | (rename_i c _ _ _ _ _; cases (c == Value.type "enumerate")<;>(wp_walk using wpAny_pyIter_tuple hl; exact ⟨_,rfl,h⟩))
  | (wp_walk using wpAny_pyIter_tuple hl; exact ⟨_,rfl,h⟩)
theorem GJ {l:Addr} {items:Array Value} {Q:Value->Shared->Prop} (hT:s.heap.IsTuple l items)
  (h:∀ h',IsEnum h' (s.heap.objs.size+1) s.heap.objs.size 0 .none->h'.IsTupleIter s.heap.objs.size l 0->(∀ b o,s.heap.get? b=some o->h'.get? b=some o)->Q (.ref (s.heap.objs.size+1)) { s with heap:=h' }):wpAny (model prog w) A (call (.type "enumerate") [.ref l]) Q E s:=by
 refine callType_new F.called_enumerate (by decide) (F.typeCall_enumerate_1 _) (F.newCall_enumerate_1 _) (fun obj=>F.args_object_init_2 obj _) F.entry_enumerate_new (LK l items) ⟨hT,?_⟩
 generalize hh1:s.heap.push { cls:=.type "tuple_iterator",data:=.fields #[.ref l,.int 0 0] }=h1
 have e1:h1.objs.size=s.heap.objs.size+1:=by rw [<- hh1,Heap.size_push]
 have g1:h1.get? s.heap.objs.size=some { cls:=.type "tuple_iterator",data:=.fields #[.ref l,.int 0 0] }:=by rw [<- hh1]; exact Heap.get?_push_size _ rfl
 have k1:∀ b o,s.heap.get? b=some o->h1.get? b=some o:=fun b o e=>by rw [<- hh1]; exact Heap.get?_push_of_some _ e
 generalize hh2:h1.push { cls:=.type "enumerate",data:=.fields #[.none,.bool false,.ref s.heap.objs.size,rawInt 0,.none,.none] }=h2
 have g2:h2.get? h1.objs.size=some { cls:=.type "enumerate",data:=.fields #[.none,.bool false,.ref s.heap.objs.size,rawInt 0,.none,.none] }:=by rw [<- hh2]; exact Heap.get?_push_size _ rfl
 have k2:∀ b o,h1.get? b=some o->h2.get? b=some o:=fun b o e=>by rw [<- hh2]; exact Heap.get?_push_of_some _ e
 refine ⟨⟨_,g2,rfl⟩,?_⟩
 rw [e1] at g2 ⊢
 exact h h2 g2 ⟨_,k2 _ _ g1,rfl,rfl⟩ fun b o e=>k2 b o (k1 b o e)
end
theorem GK {P:Program} {w:World} {K:PySem.W.Frag} {es:List Expr} {kk:Nat} {tp:Pos} {e it l:Addr} (hei:e≠it) (hle:l≠e) (hli:l≠it) :
  Turn P w K (.Tuple es kk tp) (Iet K l) [e,it] e (fun i h=>(∃ old,IsEnum h e it i old)/\h.IsTupleIter it l i):=by
 refine u6 (by simp) (fun i h st b hb=>?_) (fun i h h2 st k=>?_) (fun X hP hw hK hc i pins s σ H I st hg=>?_) (fun A i s Q E st q=>?_)
 ·obtain ⟨⟨old,a⟩,o,c,d1,d2⟩:=st
  rcases List.mem_cons.mp hb with rfl | hq
  ·exact ⟨_,a,fun v z=>by cases z⟩
  ·rw [List.mem_singleton.mp hq]; exact ⟨o,c,fun v z=>by rw [d2] at z; cases z⟩
 ·obtain ⟨⟨old,a⟩,o,b,r⟩:=st
  exact ⟨⟨old,k e (by simp) _ a⟩,o,k it (by simp) o b,r⟩
 ·subst hP hw hK
  have hq:∃ xs,fU X.K H l xs:=by rcases hg with ⟨xs,_,a,_⟩ | ⟨xs,a,_⟩<;>exact ⟨xs,a⟩
  obtain ⟨xs,hq⟩:=hq
  obtain ⟨its,rv,p,hz⟩:=I.tuple hq
  have hl:=rv.length
  have D:Draws X.prog X.w X.A.in1 it [it,l] its.toArray.size (fun i v=>its.toArray[i]? = some v) (fun i h=>h.IsTupleIter it l i/\h.IsTuple l its.toArray):=aAB (show X.A.in1.handled=none from I.ok.hd hc) it l hli its.toArray
  have hef:e∉[it,l]:=fun z=>by
   rcases List.mem_cons.mp z with z1 | z1
   ·exact hei z1
   ·exact hle (List.mem_singleton.mp z1).symm
  refine ⟨_,_,_,_,_,_,⟨WalksT.enumerateD D e hei hef (by simp),C5 D e hei hef⟩,⟨st.1,st.2,p⟩,fun b hb=>hb,fun h q=>⟨q.1,q.2.1⟩,fun g=>?_,fun g=>?_⟩
  ·obtain ⟨ys,v,hy,hv⟩:=g
   obtain rfl:=I.lN hy hq
   obtain ⟨u,hu,ru⟩:=rv.get hv
   have hlt:i<ys.length:=(List.getElem?_eq_some_iff.mp hv).1
   refine ⟨by rw [List.size_toArray,<- hl]; exact hlt,fun vals q=>?_⟩
   obtain ⟨t,x,hx,rfl⟩:=q
   have ex:x=u:=by
    have:its[i]? = some x:=by simpa using hx
    rw [hu] at this; exact (Option.some.inj this).symm
   subst ex
   exact ⟨[.int i,v],C0,.cons ⟨t,rfl⟩ (.cons ru .nil),v,rfl,fun zs hzs=>by rw [I.lN hzs hq]; exact hv⟩
  ·obtain ⟨ys,hy,e2⟩:=g
   obtain rfl:=I.lN hy hq
   rw [List.size_toArray,<- hl,e2]
 ·obtain ⟨⟨old,a⟩,b⟩:=st
  exact wpAny_pyIter_enum a q
section
variable {X:Cx} {es:List Expr} {kk:Nat} {tp:Pos}
theorem VB {a:Expr} {ta:TA} {p pos:Pos} (hg:Gl X "enumerate") (hm:X.mg "enumerate" = none) (ha:PA X [a] ta) (hs:starEach [a] X.env=[(false,eval a X.env)]:=by rfl) :
  PI X (.Tuple es kk tp) (.Call (.Name "enumerate" p) [a] [] pos) (fun σ H R=>ta σ H fun vs H1=>∃ l,vs=[.ref l]/\(((∃ xs,fS X.K H1 l xs)/\R (Iel X.K l) H1)\/((∃ xs,fU X.K H1 l xs)/\R (Iet X.K l) H1))):=by
 intro pins s σ H R I h
 refine Call_ (qG I hg hm boot_enumerate (PyProof.Rows.callWith_type1 (eP (ha pos pins s σ H _ I h) fun us s1 ⟨vs,H1,I1,r1,q1⟩=>?_) hs rfl))
 obtain ⟨l,e,q⟩:=q1
 subst e
 obtain ⟨u,rfl,ru⟩:=vals1 r1
 cases ru
 have fo:∀ b∈[s1.heap.objs.size+1,s1.heap.objs.size],lY X pins H1 b:=fun b hb=>by
  have hle:s1.heap.objs.size<=b:=by
   simp only [List.mem_cons,or_false,List.not_mem_nil] at hb
   rcases hb with rfl | rfl
   ·exact Nat.le_succ _
   ·exact Nat.le_refl _
  exact I1.FG hle (I1.hok.fresh hle)
 rcases q with ⟨⟨xs,hq⟩,q⟩ | ⟨⟨xs,hq⟩,q⟩
 ·obtain ⟨its,rv,pl,hz⟩:=I1.list hq
  have hlt:l<s1.heap.objs.size:=by obtain ⟨o,n,e,_⟩:=pl; exact Heap.lt_size e
  refine call_enumerate_list pl.isList fun h' he hi hsz hk=>wpAny_pyIter_enum he ?_
  exact ⟨s1.heap.objs.size+1,_,_,_,H1,rfl,I1.kept (t':=s1.toks) hk,GI (Nat.succ_ne_self _) (Nat.ne_of_lt (Nat.lt_succ_of_lt hlt)) (Nat.ne_of_lt hlt),⟨⟨_,he⟩,hi⟩,fo,q⟩
 ·obtain ⟨its,rv,pl,hz⟩:=I1.tuple hq
  have hlt:l<s1.heap.objs.size:=pl.lt
  refine GJ (items:=its.toArray) pl fun h' he hi hk=>wpAny_pyIter_enum he ?_
  exact ⟨s1.heap.objs.size+1,_,_,_,H1,rfl,I1.kept (t':=s1.toks) hk,GK (Nat.succ_ne_self _) (Nat.ne_of_lt (Nat.lt_succ_of_lt hlt)) (Nat.ne_of_lt hlt),⟨⟨_,he⟩,hi⟩,fo,q⟩
noncomputable def rX (ds:List D):List D:=ds.zipIdx.map fun p=>.tup [.int (p.2:Int),p.1]
theorem yJ {ds:List D} {i:Nat} {d:D} (h:(rX ds)[i]? = some d):∃ d0,ds[i]? = some d0/\d=.tup [.int (i:Int),d0]:=by
 unfold rX at h
 rw [List.getElem?_map,List.getElem?_zipIdx] at h
 cases q:ds[i]? with
 | none=>rw [q] at h; cases h
 | some d0 =>
  rw [q] at h
  simp at h
  exact ⟨d0,rfl,h.symm⟩
theorem JJ {K:PySem.W.Frag} {S:Addr->Prop} {H:Hp} {T:Addr} {x y:V} {dx dy:D} (fr:H T=none) (hx:Dn K S H dx x) (hy:Dn K S H dy y):Dn K S (upd H T (.tup [x,y])) (.tup [dx,dy]) (.ref T):=by
 simp only [Dn]
 exact ⟨T,[x,y],rfl,aS,aR.fits (.same (aK fr)) _ _ (aR.cons hx (aR.one hy))⟩
theorem LM {K:PySem.W.Frag} {a:Addr} {ds:List D}:Wlk K (Iel K a) (rX ds) [(.lst ds,.ref a)] where
 go:=fun S H fc hg i d e=>by
  have h:=hg _ (List.mem_singleton.mpr rfl)
  simp only [Dn] at h
  obtain ⟨b,xs,eb,hb,sb,dn⟩:=h
  injection eb with eb
  subst eb
  obtain ⟨d0,e0,rfl⟩:=yJ e
  obtain ⟨v,ev,dv⟩:=dn.get e0
  refine ⟨⟨xs,v,fS.of hb,ev⟩,fun x H' y=>?_⟩
  obtain ⟨T,vs,rfl,fr,rfl,v',rfl,hy⟩:=y
  have ex:=hy xs (fS.of hb)
  rw [ev] at ex
  cases ex
  exact ⟨aK fr,JJ fr (by simp only [Dn]) dv⟩
 stop:=fun S H hg i hi=>by
  have h:=hg _ (List.mem_singleton.mpr rfl)
  simp only [Dn] at h
  obtain ⟨b,xs,eb,hb,sb,dn⟩:=h
  injection eb with eb
  subst eb
  exact ⟨xs,fS.of hb,by rw [<- dn.len,<- hi]; simp [rX]⟩
theorem LN {K:PySem.W.Frag} {a:Addr} {ds:List D}:Wlk K (Iet K a) (rX ds) [(.tup ds,.ref a)] where
 go:=fun S H fc hg i d e=>by
  have h:=hg _ (List.mem_singleton.mpr rfl)
  simp only [Dn] at h
  obtain ⟨b,xs,eb,hb,dn⟩:=h
  injection eb with eb
  subst eb
  obtain ⟨d0,e0,rfl⟩:=yJ e
  obtain ⟨v,ev,dv⟩:=dn.get e0
  refine ⟨⟨xs,v,(fU.of hb),ev⟩,fun x H' y=>?_⟩
  obtain ⟨T,vs,rfl,fr,rfl,v',rfl,hy⟩:=y
  have ex:=hy xs (fU.of hb)
  rw [ev] at ex
  cases ex
  exact ⟨aK fr,JJ fr (by simp only [Dn]) dv⟩
 stop:=fun S H hg i hi=>by
  have h:=hg _ (List.mem_singleton.mpr rfl)
  simp only [Dn] at h
  obtain ⟨b,xs,eb,hb,dn⟩:=h
  injection eb with eb
  subst eb
  exact ⟨xs,(fU.of hb),by rw [<- dn.len,<- hi]; simp [rX]⟩
noncomputable def aC5 (t:WA):WI:=fun ρ Q=>t ρ fun ds=>match ds with
 | [.lst es]=>Q (rX es)
 | [.tup es]=>Q (rX es)
 | _=>False
theorem GL {a:Expr} {t:WA} {p pos:Pos} (hm:X.mg "enumerate" = none) (ha:BQ X [a] t) (hg:Gl X "enumerate" := by rfl) (hs:starEach [a] X.env=[(false,eval a X.env)]:=by rfl):W2 X (.Tuple es kk tp) (.Call (.Name "enumerate" p) [a] [] pos) (aC5 t) :=
 U1 (VB hg hm ha hs) fun σ H R aHI=>by
  obtain ⟨S,ρ,Q3,fc,sl,ht,k⟩:=aHI
  refine ⟨S,ρ,_,fc,sl,ht,fun vs H1 ds s1 d1 q1=>?_⟩
  split at q1
  ·obtain ⟨v,r,rfl,h1,h2⟩:=d1.bR
   simp only [aR] at h2
   subst h2
   have h1':=h1
   simp only [Dn] at h1
   obtain ⟨l,xs,rfl,hl,sl',da⟩:=h1
   exact ⟨l,rfl,.inl ⟨⟨xs,fS.of hl⟩,k _ H1 _ [(_,.ref l)] s1 (fun g hg=>by cases List.mem_singleton.mp hg; exact h1') LM q1⟩⟩
  ·obtain ⟨v,r,rfl,h1,h2⟩:=d1.bR
   simp only [aR] at h2
   subst h2
   have h1':=h1
   simp only [Dn] at h1
   obtain ⟨l,xs,rfl,hl,da⟩:=h1
   exact ⟨l,rfl,.inr ⟨⟨xs,(fU.of hl)⟩,k _ H1 _ [(_,.ref l)] s1 (fun g hg=>by cases List.mem_singleton.mp hg; exact h1') LN q1⟩⟩
  ·exact q1.elim
end
section
variable {X:Cx} {a b:Expr} {pos:Pos} {ta tb:WE}
theorem VC:iT X (binaryOp .Mult) (rI IntMulOk fun i j=>.int (i*j)):=opI fun _ _ _ _ _ _ _ hc q=>mul_int q hc
noncomputable def aC6:F2:=LB IntMulOk fun i j=>.int (i*j)
theorem aC7 (ha:cD X a ta) (hb:cD X b tb):cD X (.BinOp a .Mult b pos) (gE aC6 ta tb):=ZJ VC AW ha hb
end
theorem VD {i j:Int} {m n:Nat} (hi:i.natAbs<2 ^ m) (hj:j.natAbs<2 ^ n) (h:m+n<=134217728):IntMulOk i j:=by
 exact mulOk_of_bits (intBits_le hi) (intBits_le hj) h
section
variable {X:Cx}
noncomputable def aKz (t:WE):WT:=fun ρ Q=>t ρ fun d=>match d with
 | .lst ds=>Q (!ds.isEmpty)
 | .tup ds=>Q (!ds.isEmpty)
 | _=>False
theorem aR.empty {K:PySem.W.Frag} {S:Addr->Prop} {H:Hp} {ds:List D} {xs:List V} (h:aR K S H ds xs):ds.isEmpty=xs.isEmpty:=by
 have:=h.len
 cases ds<;>cases xs<;>simp at this ⊢
noncomputable abbrev WO:=bN->(Option Int->Prop)->Prop
noncomputable def aC8 (K:PySem.W.Frag) (t:WO):TO:=fun σ H Q=>∃ (S:Addr->Prop) (ρ:bN) (Q3:Option Int->Prop),(∀ a,H a=none->S a)/\Sl K S H ρ σ/\t ρ Q3 /\ ∀ o H',Same H H'->Q3 o->Q o H'
noncomputable def PO3 (X:Cx) (e:Option Expr) (t:WO):Prop:=PO X e (aC8 X.K t)
noncomputable def VE:WO:=fun _ Q=>Q none
noncomputable def aC9 (t:WE):WO:=fun ρ Q=>t ρ fun d=>match d with
 | .int i=>Q (some i)
 | _=>False
theorem aHJ:PO3 X none VE:=fun pins s σ H Q I aHK=>by obtain ⟨S,ρ,Q3,fc,sl,ht,k⟩:=aHK; exact UE pins s σ H Q I (k none H (Same.refl H) ht)
theorem po3 {e:Expr} {t:WE} (h:cD X e t):PO3 X (some e) (aC9 t):=fun pins s σ H Q I aHL=>by
 obtain ⟨S,ρ,Q3,fc,sl,ht,k⟩:=aHL
 refine UG h pins s σ H Q I ⟨S,ρ,_,fc,sl,ht,fun v H1 d s1 d1 q1=>?_⟩
 cases d with
 | int i=>simp only [Dn] at d1; exact ⟨i,d1,k _ H1 s1 q1⟩
 | _=>exact q1.elim
noncomputable def cutD (xs:List D) (lo hi:Option Int):List D:=(xs.drop (HT.fV xs.length 0 lo)).take (HT.fV xs.length xs.length hi - HT.fV xs.length 0 lo)
theorem aR.cut {K:PySem.W.Frag} {S:Addr->Prop} {H:Hp} {ds:List D} {xs:List V} {lo hi:Option Int} (h:aR K S H ds xs):aR K S H (cutD ds lo hi) (CM xs lo hi):=by
 unfold cutD CM
 rw [h.len]
 exact (h.drop _).take _
theorem QL {prog:Program} {w:World} {A:Around} {E:Value->Shared->Prop} {s:Shared} {t sl:Addr} {items:Array Value} {vl vu:Value} {lo hi:Option Int} {Q:Value->Shared->Prop} (ht:IsTup s.heap t items) (hs:s.heap.IsSliceOf sl vl vu .none) (pl:IsPart vl lo) (pu:IsPart vu hi)
  (h0:HT.fV items.size 0 lo=0) (h1:HT.fV items.size items.size hi=items.size) (h:Q (.ref t) s):wpAny (model prog w) A (getItem (.ref t) (.ref sl)) Q E s:=by
 have hT:s.TypeIs (.ref sl) "slice" := by obtain ⟨o,a,b,_⟩:=hs; exact ⟨o,a,b⟩
 unfold getItem
 try with_reducible refine wpAny_holding ?_
 first | refine wpAny_bind (wpAny_pure ?_) | skip
 apply wpAny_bind
 refine wpAny_sequenceKey ht.typeIs (by decide) (wpAny_bind (wpAny_callSpecial?_slot ht.typeIs PyProof.Rows.slot_tuple_getitem (wpAny_call_entry PyProof.Rows.slot_tuple_getitem ht.typeIs entry_tuple_getitem ?_ (args_tuple_getitem _ _))))
 refine wpAny_bind (m:=Builtin.Tuple.tupleItemsOf _) (tupleItemsOf_ ht (wpAny_bind (wpAny_typeOf hT ?_)))
 rw [if_pos (by decide)]
 refine wpAny_bind (HT.jL (n:=items.size) hs pl pu ?_)
 rw [h0,h1]
 show wpAny _ _ (if ((((0:Nat):Int) == 0)&&((1:Int) == 1)&&((items.size - 0) == items.size))=true then _ else _) _ _ s
 rw [if_pos (by simp)]
 refine wpAny_bind (m:=Builtin.Tuple.tupleIsExact _) (wpAny_bind (wpAny_typeOf ht.typeIs (wpAny_pure ?_)))
 show wpAny _ _ (if true=true then _ else _) _ _ s
 rw [if_pos rfl]
 exact wpAny_bind (wpAny_rule (wpAny_pure ⟨_,rfl,wpAny_pure h⟩))
noncomputable def aHM (K:PySem.W.Frag):V->Option Int->Option Int->Hp->VK->Prop:=fun x lo hi H Q=>∃ a xs,x=.ref a/\fU K H a xs/\(HT.fV xs.length 0 lo=0/\HT.fV xs.length xs.length hi=xs.length)/\Q (.ref a) H
theorem VF:WN X (aHM X.K):=by
 intro pins s σ H x v vl vu lo hi sl Q I rx hs pl pu h
 obtain ⟨a,xs,rfl,hx,hw,q⟩:=h
 cases rx
 obtain ⟨its,r,ht,hz⟩:=I.tuple hx
 have hlen:its.toArray.size=xs.length:=by rw [List.size_toArray]; exact r.length.symm
 exact ⟨"tuple",_,PyProof.Rows.slot_tuple_getitem.lookup,ht.typeIs,QL ht hs pl pu (by rw [hlen]; exact hw.1) (by rw [hlen]; exact hw.2) ⟨.ref a,H,I,rfl,q⟩⟩
noncomputable def wSl (te:WE) (tl th:WO):WE:=fun ρ Q=>te ρ fun d=>tl ρ fun lo=>th ρ fun hi=>match d with
 | .lst ds=>Q (.lst (cutD ds lo hi))
 | .tup ds=>Q (.tup (cutD ds lo hi))
 | _=>False
theorem sl3 {e:Expr} {lo hi:Option Expr} {p2 pos:Pos} {te:WE} {tl th:WO} (he:cD X e te) (hl:PO3 X lo tl) (hh:PO3 X hi th):cD X (.Subscript e (.Slice lo hi none p2) pos) (wSl te tl th) :=
 imp (OZ (UK.or (Y7.or VF)) he hl hh) fun σ H Q aHO=>by
  obtain ⟨S,ρ,Q3,fc,sl,ht,k⟩:=aHO
  refine ⟨S,ρ,_,fc,sl,ht,fun v H1 d s1 d1 q1=>?_⟩
  refine ⟨S,ρ,_,aW fc s1,Sl.fits (.same s1) sl,q1,fun o H2 s2 q2=>?_⟩
  refine ⟨S,ρ,_,aW fc (s1.trans s2),Sl.fits (.same (s1.trans s2)) sl,q2,fun o2 H3 s3 q3=>?_⟩
  have d3:=Dn.fits (.same (s2.trans s3)) _ _ d1
  have sa:=(s1.trans s2).trans s3
  cases d with
  | lst ds =>
   simp only [Dn] at d3
   obtain ⟨a,xs,rfl,ha,sa',da⟩:=d3
   refine .inl ⟨a,xs,rfl,fS.of ha,fun p hp=>k _ _ _ (sa.trans (aK hp)) ?_ q3⟩
   simp only [Dn]
   exact ⟨p,_,rfl,aS,aW fc sa p hp,aR.fits (.same (aK hp)) _ _ da.cut⟩
  | tup ds =>
   simp only [Dn] at d3
   obtain ⟨a,xs,rfl,ha,da⟩:=d3
   have hl:=da.len
   by_cases hw:HT.fV xs.length 0 o=0/\HT.fV xs.length xs.length o2=xs.length
   ·refine .inr (.inr ⟨a,xs,rfl,(fU.of ha),hw,k _ _ _ sa ?_ q3⟩)
    have e:cutD ds o o2=ds:=by
     unfold cutD
     rw [hl,hw.1,hw.2,List.drop_zero,Nat.sub_zero,List.take_of_length_le (Nat.le_of_eq hl)]
    rw [e]
    simp only [Dn]
    exact ⟨a,xs,rfl,ha,da⟩
   ·refine .inr (.inl ⟨a,xs,rfl,(fU.of ha),hw,fun p hp=>k _ _ _ (sa.trans (aK hp)) ?_ q3⟩)
    simp only [Dn]
    exact ⟨p,_,rfl,aS,aR.fits (.same (aK hp)) _ _ da.cut⟩
  | _=>exact q3.elim
end
section
variable {X:Cx} {tg:Expr}
end
end L3
end
section
namespace L4
open PySem PySem.Spec PyProof.Rows L2 L3
noncomputable def wE (f:EF):WE:=fun ρ Q=>∃ d,f ρ=some d/\Q d
noncomputable def wT (f:TF):WT:=fun ρ Q=>∃ d,f ρ=some d/\Q d
noncomputable def wA (f:AF):WA:=fun ρ Q=>∃ d,f ρ=some d/\Q d
noncomputable def wI (f:AF):WI:=fun ρ Q=>∃ d,f ρ=some d/\Q d
noncomputable def wO (f:OF):WO:=fun ρ Q=>∃ d,f ρ=some d/\Q d
noncomputable def wX (f:XF):WX:=fun ρ Q=>∃ p,f ρ=some p/\Q p.1 p.2
noncomputable def wS (f:SF):WS:=fun E ρ=>match f ρ with
 | .nx ρ'=>E.nx ρ'
 | .rt d=>E.rt d
 | .ex c=>E.ex c
 | .no=>False
noncomputable def wG (g:M9):WG:=fun d ρ Q=>∃ ρ',g d ρ=some ρ'/\Q ρ'
noncomputable def wGE (g:EK):GE:=fun d ρ Q=>∃ ρ',g d ρ=some ρ'/\Q ρ'
noncomputable abbrev bO (X:Cx) (e:Expr) (f:EF):Prop:=cD X e (wE f)
noncomputable abbrev j6 (X:Cx) (e:Expr) (f:EF):Prop:=ED X e (wE f)
noncomputable abbrev A4 (X:Cx) (e:Expr) (f:TF):Prop:=wN X e (wT f)
noncomputable abbrev GN (X:Cx) (e:Expr) (f:TF):Prop:=NA X e (wT f)
noncomputable abbrev xC (X:Cx) (es:List Expr) (f:AF):Prop:=BQ X es (wA f)
noncomputable abbrev PI4 (X:Cx) (tg e:Expr) (f:AF):Prop:=W2 X tg e (wI f)
noncomputable abbrev PO4 (X:Cx) (e:Option Expr) (f:OF):Prop:=PO3 X e (wO f)
noncomputable abbrev QM (X:Cx) (e:Expr) (f:XF):Prop:=GB X e (wX f)
noncomputable abbrev C6 (X:Cx) (st:Stmt) (f:SF):Prop:=GA X st (wS f)
noncomputable abbrev A5 (X:Cx) (st:List Stmt) (f:SF):Prop:=u1 X st (wS f)
section
variable {X:Cx}
theorem cE {e:Expr} {t t':WE} (h:cD X e t) (c:∀ ρ Q,t' ρ Q->t ρ Q):cD X e t':=imp h fun _ _ _ aHQ=>by obtain ⟨S,ρ,Q3,fc,sl,ht,k⟩:=aHQ; exact ⟨S,ρ,Q3,fc,sl,c ρ Q3 ht,k⟩
theorem cF {e:Expr} {t t':WE} (h:ED X e t) (c:∀ ρ Q,t' ρ Q->t ρ Q):ED X e t':=imp h fun _ _ _ aHR=>by obtain ⟨S,ρ,Q3,fc,sl,ht,k⟩:=aHR; exact ⟨S,ρ,Q3,fc,sl,c ρ Q3 ht,k⟩
theorem cT {e:Expr} {t t':WT} (h:wN X e t) (c:∀ ρ Q,t' ρ Q->t ρ Q):wN X e t':=UR h fun _ _ _ aHS=>by obtain ⟨S,ρ,Q3,fc,sl,ht,k⟩:=aHS; exact ⟨S,ρ,Q3,fc,sl,c ρ Q3 ht,k⟩
theorem cW {e:Expr} {t t':WT} (h:NA X e t) (c:∀ ρ Q,t' ρ Q->t ρ Q):NA X e t':=ZO h fun _ _ _ aHT=>by obtain ⟨S,ρ,Q3,fc,sl,ht,k⟩:=aHT; exact ⟨S,ρ,Q3,fc,sl,c ρ Q3 ht,k⟩
theorem cA {e:List Expr} {t t':WA} (h:BQ X e t) (c:∀ ρ Q,t' ρ Q->t ρ Q):BQ X e t':=ZI h fun _ _ _ aHU=>by obtain ⟨S,ρ,Q3,fc,sl,ht,k⟩:=aHU; exact ⟨S,ρ,Q3,fc,sl,c ρ Q3 ht,k⟩
theorem cI {tg e:Expr} {t t':WI} (h:W2 X tg e t) (c:∀ ρ Q,t' ρ Q->t ρ Q):W2 X tg e t':=U1 h fun _ _ _ aHV=>by obtain ⟨S,ρ,Q3,fc,sl,ht,k⟩:=aHV; exact ⟨S,ρ,Q3,fc,sl,c ρ Q3 ht,k⟩
theorem cX {e:Expr} {t t':WX} (h:GB X e t) (c:∀ ρ Q,t' ρ Q->t ρ Q):GB X e t':=imp h fun _ _ _ aHW=>by obtain ⟨H₀,S,w,ρ,G,Q3,hl,st,ht,k⟩:=aHW; exact ⟨H₀,S,w,ρ,G,Q3,hl,st,c ρ Q3 ht,k⟩
theorem cS {e:Stmt} {t t':WS} (h:GA X e t) (c:∀ E ρ,t' E ρ->t E ρ):GA X e t':=qM h fun _ _ _ aHX=>by obtain ⟨H₀,S,w,ρ,G,E,hl,st,ht,ok⟩:=aHX; exact ⟨H₀,S,w,ρ,G,E,hl,st,c E ρ ht,ok⟩
theorem cSs {e:List Stmt} {t t':WS} (h:u1 X e t) (c:∀ E ρ,t' E ρ->t E ρ):u1 X e t':=JF h fun _ _ _ aHY=>by obtain ⟨H₀,S,w,ρ,G,E,hl,st,ht,ok⟩:=aHY; exact ⟨H₀,S,w,ρ,G,E,hl,st,c E ρ ht,ok⟩
theorem GN.pt {e:Expr} {f:TF} (h:GN X e f):A4 X e f:=NA.pt h
theorem j6.pe {e:Expr} {f:EF} (h:j6 X e f):bO X e f:=ED.pe h
theorem bnd {α β:Type} {o:Option α} {f:α->Option β} {b:β} (h:o.bind f=some b):∃ a,o=some a/\f a=some b:=by
 cases o with
 | none=>cases h
 | some a=>exact ⟨a,rfl,h⟩
theorem xD {α β:Type} {o:Option α} {f:α->β} {b:β} (h:o.map f=some b):∃ a,o=some a/\f a=b:=by
 cases o with
 | none=>cases h
 | some a=>exact ⟨a,rfl,Option.some.inj h⟩
theorem x4 (i:Nat) {x:Str} {pos:Pos} (hN:X.N[i]? = some x:=by rfl) (hv:FE X.env.scope x:=by first | exact Or.inl rfl | exact Or.inr (Or.inl rfl) | exact Or.inr (Or.inr rfl)) (hd:(x == ("__debug__" : Str))=false:=by decide)
  (hcd:(x == ("__classdict__" : Str))=false:=by decide):bO X (.Name x pos) (aB i):=cE (x3 i hN hv hd hcd) fun ρ Q aHZ=>by
 obtain ⟨d,e,q⟩:=aHZ
 unfold aB at e
 unfold US
 cases h:ρ[i]? with
 | none=>rw [h] at e; cases e
 | some o =>
  rw [h] at e
  cases o with
  | none=>cases e
  | some d'=>cases e; exact q
theorem i4 {i:Int} {j pos}:bO X (.Constant (.int i) j pos) (eC (.int i)):=cE i3 fun _ _ aH0=>by obtain ⟨_,e,q⟩:=aH0; cases e; exact q
theorem b4 {b:Bool} {j pos}:bO X (.Constant (.bool b) j pos) (eC (.bl b)):=cE b3 fun _ _ aH1=>by obtain ⟨_,e,q⟩:=aH1; cases e; exact q
theorem n4 {j pos}:bO X (.Constant .none j pos) (eC .non):=cE n3 fun _ _ aH2=>by obtain ⟨_,e,q⟩:=aH2; cases e; exact q
theorem s4 {x:Str} {j pos}:bO X (.Constant (.str x) j pos) (eC (.str x)):=cE s3 fun _ _ aH3=>by obtain ⟨_,e,q⟩:=aH3; cases e; exact q
noncomputable def Tells (f:F2) (g:D->D->Option D):Prop:=∀ (x y d:D) (Q:D->Prop),g x y=some d->Q d->f x y Q
theorem hV {f:F2} {g:D->D->Option D} (h:Tells f g) {fa fb:EF} (ρ:bN) (Q:D->Prop) (w:wE (aE g fa fb) ρ Q):gE f (wE fa) (wE fb) ρ Q:=by
 obtain ⟨d,e,q⟩:=w
 obtain ⟨x,ex,e⟩:=bnd e
 obtain ⟨y,ey,e⟩:=bnd e
 exact ⟨x,ex,y,ey,h x y d Q e q⟩
theorem h9 {g:Int->Int->D}:Tells (uX g) (EE g):=fun x y d Q e q=>by
 cases x<;>first | (cases e; done) | skip
 all_goals (cases y<;>first | (cases e; done) | skip)
 cases e; exact q
theorem j7 {C:Int->Int->Prop} {c:Int->Int->Bool} {g:Int->Int->D} (h:∀ i j,c i j=true->C i j):Tells (LB C g) (mD c g):=fun x y d Q e q=>by
 cases x<;>first | (cases e; done) | skip
 all_goals (cases y<;>first | (cases e; done) | skip)
 rename_i i j
 have e:(if c i j=true then some (g i j) else none)=some d:=e
 by_cases hc:c i j=true
 ·rw [if_pos hc] at e; cases e; exact ⟨h i j hc,q⟩
 ·rw [if_neg hc] at e; cases e
theorem szl {n:Nat} {α:Type} {x d:α} {Q:α->Prop} (e:(if n<=gX then some x else none)=some d) (q:Q d):n<=sizeLine/\Q x:=by
 by_cases h:n<=gX
 ·rw [if_pos h] at e; cases e; exact ⟨by rw [sizeLine_eq]; exact h,q⟩
 ·rw [if_neg h] at e; cases e
theorem LO:Tells ZK bM:=fun x y d Q e q=>by
 cases x<;>first | (cases e; done) | skip
 all_goals (cases y<;>first | (cases e; done) | skip)
 ·cases e; exact q
 ·exact szl (x:=D.str _) e q
 ·exact szl (x:=D.tup _) e q
 ·exact szl (x:=D.lst _) e q
theorem LP:Tells aBq zF:=fun x y d Q e q=>by
 cases x<;>first | (cases e; done) | skip
 all_goals (cases y<;>first | (cases e; done) | skip)
 exact szl (x:=D.lst _) e q
theorem aAD {i j:Int} (h:BR i j=true):IntMulOk i j:=by
 unfold BR at h
 simp only [Bool.or_eq_true,decide_eq_true_eq] at h
 rcases h with (h | h) | h
 ·exact T6.ok (.inl ⟨by omega,by omega⟩)
 ·exact T6.ok (.inr ⟨by omega,by omega⟩)
 ·refine VD (m:=i.natAbs.log2+1) (n:=j.natAbs.log2+1) ?_ ?_ (by omega)
  ·exact Nat.lt_log2_self
  ·exact Nat.lt_log2_self
section
variable {a b:Expr} {pos:Pos} {fa fb:EF}
theorem kZ (ha:bO X a fa) (hb:bO X b fb):bO X (.BinOp a .Add b pos) (aE bM fa fb):=cE (aF0 ha hb) (hV LO)
theorem aH4 (ha:bO X a fa) (hb:bO X b fb):bO X (.BinOp a .Sub b pos) (aE e9 fa fb):=cE (aFW ha hb) (hV h9)
theorem C7 (ha:bO X a fa) (hb:bO X b fb):bO X (.BinOp a .Mult b pos) (aE mulM fa fb):=cE (aC7 ha hb) (hV (j7 fun _ _ h=>aAD h))
theorem oW (ha:bO X a fa) (hb:bO X b fb):bO X (.BinOp a .Mod b pos) (aE cJ fa fb):=cE (aFX ha hb) (hV (j7 fun _ _ h=>by simpa using h))
theorem VG (ha:bO X a fa) (hb:bO X b fb):bO X (.BinOp a .FloorDiv b pos) (aE kH fa fb):=cE (aFY ha hb) (hV (j7 fun i j h=>by
 simp only [Bool.and_eq_true,decide_eq_true_eq] at h
 exact ⟨h.1,by omega⟩))
theorem aH5 (ha:bO X a fa) (hb:bO X b fb):bO X (.BinOp a .Pow b pos) (aE BS fa fb):=cE (aFZ ha hb) (hV (j7 fun i j h=>by
 simp only [Bool.and_eq_true,decide_eq_true_eq] at h
 exact ⟨h.1.1,by omega,h.2⟩))
theorem W6 (ha:bO X a fa) (hb:bO X b fb):j6 X (.BinOp a .Add b pos) (aE zF fa fb):=cF (aBr ha hb) (hV LP)
theorem tells_eq:Tells UX jI:=fun x y d Q e q=>by
 cases x<;>first | (cases e; done) | skip
 all_goals (cases y<;>first | (cases e; done) | skip)
 all_goals (cases e; exact ⟨rfl,q⟩)
theorem QN:Tells ZM R5:=fun x y d Q e q=>by
 cases x<;>first | (cases e; done) | skip
 all_goals (cases y<;>first | (cases e; done) | skip)
 all_goals (cases e; exact ⟨rfl,q⟩)
theorem ints_of:∀ {ds:List D} {ns:List Int},intsOf ds=some ns->ds=ns.map D.int
 | [],ns,h=>by cases h; rfl
 | d::ds,ns,h=>by
  cases d<;>first | cases h; done | skip
  obtain ⟨m,e,rfl⟩:=xD h
  rw [ints_of e]; rfl
theorem u7 {neg:Bool}:Tells (inF neg) (jX neg):=fun x y d Q e q=>by
 cases x<;>first | (cases e; done) | skip
 all_goals (cases y<;>first | (cases e; done) | skip)
 all_goals
  obtain ⟨ns,e1,rfl⟩:=xD e
  have:=ints_of e1
  subst this
  exact ⟨yG ns,by rw [yH]; exact q⟩
theorem C8:Tells UY R6:=fun x y d Q e q=>by
 unfold R6 at e
 split at e
 ·rename_i h
  cases e
  refine ⟨(by cases y<;>first | rfl | cases h),?_⟩
  have:isD x=tK x:=by cases x<;>rfl
  rw [this]; exact q
 ·cases e
theorem eq4 (ha:bO X a fa) (hb:bO X b fb):bO X (.Compare a [.Eq] [b] pos) (aE jI fa fb):=cE (aFb ha hb) (hV tells_eq)
theorem in4 (ha:bO X a fa) (hb:bO X b fb) (hm:behindInMarks .In b=false:=by with_unfolding_all rfl):bO X (.Compare a [.In] [b] pos) (aE (jX false) fa fb):=cE (in3 ha hb hm) (hV u7)
theorem is4 (ha:bO X a fa) (hb:bO X b fb):bO X (.Compare a [.Is] [b] pos) (aE R6 fa fb):=cE (aFg ha hb) (hV C8)
theorem rY {f:F2} {g:D->D->Option D} (h:Tells f g) (hb:∀ x y d,g x y=some d -> ∃ b,d=.bl b) {fa fb:EF} (ρ:bN) (Q:Bool->Prop) (w:wT (tV (aE g fa fb)) ρ Q):kU (gE f (wE fa) (wE fb)) ρ Q:=by
 obtain ⟨b,e,q⟩:=w
 obtain ⟨d,e1,e2⟩:=bnd e
 obtain ⟨x,ex,e1⟩:=bnd e1
 obtain ⟨y,ey,e1⟩:=bnd e1
 obtain ⟨c,rfl⟩:=hb x y d e1
 cases e2
 exact ⟨x,ex,y,ey,h x y _ _ e1 q⟩
theorem u9 {g:Int->Int->Bool} (x y d:D) (e:EE (fun i j=>.bl (g i j)) x y=some d):∃ b,d=.bl b:=by
 cases x<;>first | (cases e; done) | skip
 all_goals (cases y<;>first | (cases e; done) | skip)
 cases e; exact ⟨_,rfl⟩
theorem aCb (x y d:D) (e:jI x y=some d):∃ b,d=.bl b:=by obtain ⟨b,_,rfl⟩:=xD e; exact ⟨_,rfl⟩
theorem aCc (x y d:D) (e:R5 x y=some d):∃ b,d=.bl b:=by obtain ⟨b,_,rfl⟩:=xD e; exact ⟨_,rfl⟩
theorem W7 {neg:Bool} (x y d:D) (e:jX neg x y=some d):∃ b,d=.bl b:=by
 cases x<;>first | (cases e; done) | skip
 all_goals (cases y<;>first | (cases e; done) | skip)
 all_goals (obtain ⟨b,_,rfl⟩:=xD e; exact ⟨_,rfl⟩)
theorem aCd (x y d:D) (e:R6 x y=some d):∃ b,d=.bl b:=by
 unfold R6 at e
 split at e
 ·cases e; exact ⟨_,rfl⟩
 ·cases e
theorem aH6 (ha:bO X a fa) (hb:bO X b fb):A4 X (.Compare a [.Lt] [b] pos) (tV (aE R4 fa fb)):=cT (aFc ha hb) (rY h9 u9)
theorem aCe (ha:bO X a fa) (hb:bO X b fb):A4 X (.Compare a [.Gt] [b] pos) (tV (aE EC fa fb)):=cT (aFd ha hb) (rY h9 u9)
theorem aH7 (ha:bO X a fa) (hb:bO X b fb):A4 X (.Compare a [.GtE] [b] pos) (tV (aE geM fa fb)):=cT (aFe ha hb) (rY h9 u9)
theorem QO (ha:bO X a fa) (hb:bO X b fb):A4 X (.Compare a [.Eq] [b] pos) (tV (aE jI fa fb)):=cT (aBu ha hb) (rY tells_eq aCb)
theorem aH8 (ha:bO X a fa) (hb:bO X b fb):A4 X (.Compare a [.NotEq] [b] pos) (tV (aE R5 fa fb)):=cT (aBv ha hb) (rY QN aCc)
theorem aH9 (ha:bO X a fa) (hb:bO X b fb) (hm:behindInMarks .In b=false:=by with_unfolding_all rfl):A4 X (.Compare a [.In] [b] pos) (tV (aE (jX false) fa fb)):=cT (aFf ha hb hm) (rY u7 W7)
theorem aCf (ha:bO X a fa) (hb:bO X b fb) (hm:behindInMarks .NotIn b=false:=by with_unfolding_all rfl):A4 X (.Compare a [.NotIn] [b] pos) (tV (aE (jX true) fa fb)):=cT (aBw ha hb hm) (rY u7 W7)
theorem aHa (ha:bO X a fa) (hb:bO X b fb):A4 X (.Compare a [.Is] [b] pos) (tV (aE R6 fa fb)):=cT (aBx ha hb) (rY C8 aCd)
end
noncomputable def O4 (K:PySem.W.Frag) (r:R2) (g:D->D->Option D):Prop:=∃ f,O3 K r f/\Tells f g /\ ∀ x y d,g x y=some d -> ∃ b,d=.bl b
theorem aCg {K:PySem.W.Frag}:O4 K (KY fun i j=>.bl (decide (i<j))) R4:=⟨_,uY,h9,u9⟩
theorem aCh {K:PySem.W.Frag}:O4 K (KY fun i j=>.bl (decide (i<=j))) leM:=⟨_,uY,h9,u9⟩
theorem VH {f g:F2} {p q:D->D->Option D} (hf:Tells f p) (hg:Tells g q) {fa fb fc:EF} (ρ:bN) (Q:D->Prop) (w:wE (kG p q fa fb fc) ρ Q):FX f g (wE fa) (wE fb) (wE fc) ρ Q:=by
 obtain ⟨d,e,k⟩:=w
 obtain ⟨x,ex,e⟩:=bnd e
 obtain ⟨y,ey,e⟩:=bnd e
 obtain ⟨z,ez,e⟩:=bnd e
 obtain ⟨b,eb,e5⟩:=bnd e
 refine ⟨x,ex,y,ey,hf x y z _ ez ?_⟩
 clear e
 cases z<;>first | cases eb; done | skip
 cases eb
 cases b with
 | true =>
  rw [if_pos rfl] at e5
  obtain ⟨u,eu,e⟩:=bnd e5
  exact ⟨u,eu,hg y u d Q e k⟩
 | false =>
  rw [if_neg Bool.false_ne_true] at e5
  cases e5
  exact k
theorem aAE {a b c:Expr} {op op':CmpOp} {pos:Pos} {r r':R2} {p q:D->D->Option D} {fa fb fc:EF} (ho:iT X (compareOp op) r) (ho':iT X (compareOp op') r') (h1:O4 X.K r p) (h2:O4 X.K r' q) (ha:bO X a fa) (hb:bO X b fb) (hc:bO X c fc)
  (hm:lastMarks [op,op'] [b,c]=false:=by with_unfolding_all rfl):bO X (.Compare a [op,op'] [b,c] pos) (kG p q fa fb fc):=by
 obtain ⟨f,o1,t1,_⟩:=h1
 obtain ⟨g,o2,t2,_⟩:=h2
 exact cE (ZP ho ho' o1 o2 ha hb hc hm) (VH t1 t2)
section
variable {a b c:Expr} {rest:List Expr} {pos:Pos} {fa fb:EF} {ta tb tc:TF}
theorem rZ (ha:A4 X a ta):A4 X (.UnaryOp .Not a pos) (fE ta):=cT (aCA ha) fun ρ Q aHb=>by
 obtain ⟨b,e,q⟩:=aHb
 obtain ⟨c,ec,rfl⟩:=xD e
 exact ⟨c,ec,q⟩
theorem aCi (ha:A4 X a ta):GN X (.BoolOp .And [a] pos) ta:=aFj ha
theorem LQ (ha:A4 X a ta):GN X (.BoolOp .Or [a] pos) ta:=or1 ha
theorem aCj (ha:A4 X a ta) (hb:GN X (.BoolOp .And (b::rest) pos) tb):GN X (.BoolOp .And (a::b::rest) pos) (lW ta tb):=cW (aCB ha hb) fun ρ Q aHc=>by
 obtain ⟨d,e,q⟩:=aHc
 obtain ⟨c,ec,e⟩:=bnd e
 refine ⟨c,ec,?_⟩
 cases c with
 | true=>rw [if_pos rfl] at e ⊢; exact ⟨d,e,q⟩
 | false=>rw [if_neg Bool.false_ne_true] at e ⊢; cases e; exact q
theorem LR (ha:A4 X a ta) (hb:GN X (.BoolOp .Or (b::rest) pos) tb):GN X (.BoolOp .Or (a::b::rest) pos) (mC ta tb):=cW (aFl ha hb) fun ρ Q aHd=>by
 obtain ⟨d,e,q⟩:=aHd
 obtain ⟨c,ec,e⟩:=bnd e
 refine ⟨c,ec,?_⟩
 cases c with
 | true=>rw [if_pos rfl] at e ⊢; cases e; exact q
 | false=>rw [if_neg Bool.false_ne_true] at e ⊢; exact ⟨d,e,q⟩
theorem C9 {op} (ha:bO X a fa):bO X (.BoolOp op [a] pos) fa:=aFq ha
theorem vA (ha:bO X a fa) (hb:bO X (.BoolOp .And (b::rest) pos) fb):bO X (.BoolOp .And (a::b::rest) pos) (fZ fa fb):=cE (aFr ha hb) fun ρ Q aHe=>by
 obtain ⟨d,e,q⟩:=aHe
 obtain ⟨x,ex,e1⟩:=bnd e
 obtain ⟨c,ec,e⟩:=bnd e1
 clear e1
 refine ⟨x,ex,?_⟩
 cases x<;>first | cases ec; done | skip
 cases ec
 cases c with
 | true=>rw [if_pos rfl] at e; exact ⟨d,e,q⟩
 | false=>rw [if_neg Bool.false_ne_true] at e; cases e; exact q
theorem or4 (ha:bO X a fa) (hb:bO X (.BoolOp .Or (b::rest) pos) fb):bO X (.BoolOp .Or (a::b::rest) pos) (VY fa fb):=cE (or3 ha hb) fun ρ Q aHf=>by
 obtain ⟨d,e,q⟩:=aHf
 obtain ⟨x,ex,e1⟩:=bnd e
 obtain ⟨c,ec,e⟩:=bnd e1
 clear e1
 refine ⟨x,ex,?_⟩
 cases x<;>first | cases ec; done | skip
 cases ec
 cases c with
 | true=>rw [if_pos rfl] at e; cases e; exact q
 | false=>rw [if_neg Bool.false_ne_true] at e; exact ⟨d,e,q⟩
theorem aCk (ha:bO X a fa):bO X (.UnaryOp .Not a pos) (sL fa):=cE (aFu ha) fun ρ Q aHg=>by
 obtain ⟨d,e,q⟩:=aHg
 obtain ⟨x,ex,e⟩:=bnd e
 obtain ⟨c,ec,rfl⟩:=xD e
 refine ⟨x,ex,?_⟩
 cases x<;>first | cases ec; done | skip
 cases ec
 exact q
theorem if4 (hc:A4 X c tc) (ha:bO X a fa) (hb:bO X b fb):bO X (.IfExp c a b pos) (SA tc fa fb):=cE (if3 hc ha hb) fun ρ Q aHh=>by
 obtain ⟨d,e,q⟩:=aHh
 obtain ⟨c,ec,e⟩:=bnd e
 refine ⟨c,ec,?_⟩
 cases c with
 | true=>rw [if_pos rfl] at e ⊢; exact ⟨d,e,q⟩
 | false=>rw [if_neg Bool.false_ne_true] at e ⊢; exact ⟨d,e,q⟩
theorem aHi (ha:bO X a fa):bO X (.UnaryOp .USub a pos) (sM fa):=cE (aFy ha) fun ρ Q aHj=>by
 obtain ⟨d,e,q⟩:=aHj
 obtain ⟨x,ex,e⟩:=bnd e
 refine ⟨x,ex,?_⟩
 cases x<;>first | cases e; done | skip
 cases e
 exact q
theorem qN {e:Expr} {f:EF} (h:bO X e f) (he:∀ whole,isTrue e X.env whole=(do let v <- whole; standAt e.pos; holding [v] (truthy v)):=by intro _; rfl):A4 X e (tV f) :=
 UR (OX h he) fun σ H Q aHk=>by
  obtain ⟨S,ρ,Q3,fc,sl,⟨b,hb,q3⟩,k⟩:=aHk
  obtain ⟨d0,ed,et⟩:=bnd hb
  refine ⟨S,ρ,fun d=>d=d0,fc,sl,⟨d0,ed,rfl⟩,fun v H1 d s1 d1 q1=>?_⟩
  subst q1
  cases d with
  | bl c=>cases et; simp only [Dn] at d1; subst d1; exact ⟨_,rfl,k _ H1 s1 q3⟩
  | lst ds =>
   cases et
   simp only [Dn] at d1
   obtain ⟨a,xs,rfl,ha,sa,da⟩:=d1
   exact ⟨_,.inl ⟨xs,fS.of ha,by rw [<- da.empty]⟩,k _ H1 s1 q3⟩
  | tup ds =>
   cases et
   simp only [Dn] at d1
   obtain ⟨a,xs,rfl,ha,da⟩:=d1
   exact ⟨_,.inr (.inl ⟨xs,(fU.of ha),by rw [<- da.empty]⟩),k _ H1 s1 q3⟩
  | _=>cases et
end
end
section
variable {X:Cx}
theorem aP:xC X [] aC:=cA aF3 fun _ _ aHl=>by obtain ⟨_,e,q⟩:=aHl; cases e; exact q
theorem aG {e:Expr} {es:List Expr} {fe:EF} {t:AF} (ha:bO X e fe) (hr:xC X es t) (hs:starEach (e::es) X.env=(false,eval e X.env)::starEach es X.env:=by rfl):xC X (e::es) (aA fe t):=cA (aBt ha hr hs) fun ρ Q aHm=>by
 obtain ⟨ds,e,q⟩:=aHm
 obtain ⟨d,ed,e⟩:=bnd e
 obtain ⟨r,er,e⟩:=bnd e
 cases e
 exact ⟨d,ed,r,er,q⟩
theorem GO {es:List Expr} {t:AF} {x1} {pos:Pos} (h:xC X es t):bO X (.Tuple es x1 pos) (dE t):=cE (aF6 h) fun ρ Q aHn=>by
 obtain ⟨d,e,q⟩:=aHn
 obtain ⟨ds,ed,e⟩:=bnd e
 exact ⟨ds,ed,szl (x:=D.tup ds) e q⟩
theorem sR {es:List Expr} {t:AF} {pos:Pos} (h:xC X es t):j6 X (.List es pos) (dD t):=cF (aF8 h) fun ρ Q aHo=>by
 obtain ⟨d,e,q⟩:=aHo
 obtain ⟨ds,ed,e⟩:=bnd e
 exact ⟨ds,ed,szl (x:=D.lst ds) e q⟩
theorem QP:Tells ixF bZ:=fun x y d Q e q=>by
 cases x<;>first | (cases e; done) | skip
 all_goals (cases y<;>first | (cases e; done) | skip)
 ·have e:rR _ _=some d:=e
  show (match rR _ _ with | some d=>Q d | none=>False)
  rw [e]; exact q
 ·have e:rR _ _=some d:=e
  show (match rR _ _ with | some d=>Q d | none=>False)
  rw [e]; exact q
 ·obtain ⟨n,e1,rfl⟩:=xD e
  have e1:rR _ _=some n:=e1
  show (match rR _ _ with | some n=>Q (.int n) | none=>False)
  rw [e1]; exact q
theorem qO {a b:Expr} {pos:Pos} {fa fb:EF} (ha:bO X a fa) (hb:bO X b fb) (hs:tG b:=by intro _ _; rfl):bO X (.Subscript a b pos) (aE bZ fa fb):=cE (ix3 ha hb hs) (hV QP)
theorem LS:Tells Z7 tL:=fun x y d Q e q=>by
 cases x<;>first | cases e; done | skip
 rename_i ks ds
 obtain ⟨k,ek,e⟩:=bnd e
 have ek:CY y=some k:=by cases y<;>first | exact ek | cases ek
 have e:iY ks ds k=some d:=e
 show (match D.iQ ks ds,CY y with
  | .iQ ks ds,some k=>(match iY ks ds k with | some d=>Q d | none=>False)
  | _,_=>False)
 rw [ek]
 dsimp only
 rw [e]; exact q
theorem aCl {o i:Expr} {pos:Pos} {fo fi:EF} (hu:X.A.units+1<cLine) (ho:bO X o fo) (hi:bO X i fi) (hs:UN i:=by intro _ _; rfl):bO X (.Subscript o i pos) (aE tL fo fi):=cE (aGz hu ho hi hs) (hV LS)
noncomputable def qP (f:F1) (g:List D->Option D):Prop:=∀ (ds:List D) (d:D) (Q:D->Prop),g ds=some d->Q d->f ds Q
theorem A6 {f:F1} {g:List D->Option D} (h:qP f g) {t:AF} (ρ:bN) (Q:D->Prop) (w:wE (bA g t) ρ Q):R9 f (wA t) ρ Q:=by
 obtain ⟨d,e,q⟩:=w
 obtain ⟨ds,ed,e⟩:=bnd e
 exact ⟨ds,ed,h ds d Q e q⟩
theorem LU:qP FZ bL:=fun ds d Q e q=>by
 cases ds with
 | nil=>cases e
 | cons a ds =>
  cases a<;>first | (cases e; done) | skip
  all_goals (cases ds<;>first | (cases e; exact q) | (cases e; done))
theorem DA:qP F0 bH:=fun ds d Q e q=>by
 cases ds with
 | nil=>cases e
 | cons a ds =>
  cases a<;>first | (cases e; done) | skip
  all_goals (cases ds<;>first | (cases e; exact q) | (cases e; done))
theorem oX {p pos:Pos} {e:Expr} {t:AF} (hm:X.mg "len" = none) (ha:xC X [e] t) (hg:Gl X "len" := by rfl) (he:starEach [e] X.env=(false,eval e X.env)::starEach [] X.env:=by rfl):bO X (.Call (.Name "len" p) [e] [] pos) (bA bL t):=cE (aGB hm ha hg he) (A6 LU)
theorem nM {p pos:Pos} {e:Expr} {t:AF} (hm:X.mg "tuple" = none) (ha:xC X [e] t) (hg:Gl X "tuple" := by rfl) (he:starEach [e] X.env=(false,eval e X.env)::starEach [] X.env:=by rfl):bO X (.Call (.Name "tuple" p) [e] [] pos) (bA bH t):=cE (ZR hm PyProof.Rows.boot_tuple ha hg he) (A6 DA)
theorem yK:∀ ds:List D,L3.intsOf ds=L4.intsOf ds
 | []=>rfl
 | d::ds=>by
  cases d<;>first | rfl | skip
  show (L3.intsOf ds).map _=(L4.intsOf ds).map _
  rw [yK ds]
theorem nN (a:Int):∀ l:List Int,(insI a l).Perm (a::l)
 | []=>.refl _
 | b::l=>by
  unfold insI
  split
  ·exact .refl _
  ·exact ((nN a l).cons b).trans (.swap a b l)
theorem lA:∀ l:List Int,(sortI l).Perm l
 | []=>.refl _
 | a::l=>(nN a (sortI l)).trans ((lA l).cons a)
theorem oY (a:Int):∀ l:List Int,l.Pairwise (· <= ·)->(insI a l).Pairwise (· <= ·)
 | [],_=>by simp [insI]
 | b::l,h=>by
  unfold insI
  split
  ·rename_i hab
   refine List.pairwise_cons.mpr ⟨fun c hc=>?_,h⟩
   rcases List.mem_cons.mp hc with e | e
   ·subst e; exact hab
   ·exact Int.le_trans hab ((List.pairwise_cons.mp h).1 c e)
  ·rename_i hab
   refine List.pairwise_cons.mpr ⟨fun c hc=>?_,oY a l (List.pairwise_cons.mp h).2⟩
   rcases List.mem_cons.mp ((nN a l).mem_iff.mp hc) with e | e
   ·subst e; omega
   ·exact (List.pairwise_cons.mp h).1 c e
theorem jF:∀ l:List Int,(sortI l).Pairwise (· <= ·)
 | []=>List.Pairwise.nil
 | a::l=>oY a _ (jF l)
theorem nO:∀ {l m:List Int},l.Perm m->l.Pairwise (· <= ·)->m.Pairwise (· <= ·)->l=m
 | [],m,p,_,_=>by rw [p.nil_eq]
 | a::l,[],p,_,_=>by have:=p.length_eq; simp at this
 | a::l,b::m,p,h1,h2=>by
  have e:a=b:=by
   have m1:=p.mem_iff.mp (List.mem_cons_self (a:=a) (l:=l))
   have m2:=p.mem_iff.mpr (List.mem_cons_self (a:=b) (l:=m))
   rcases List.mem_cons.mp m1 with e | e
   ·exact e
   ·rcases List.mem_cons.mp m2 with e2 | e2
    ·exact e2.symm
    ·have:=(List.pairwise_cons.mp h2).1 a e
     have:=(List.pairwise_cons.mp h1).1 b e2
     omega
  subst e
  rw [nO p.cons_inv (List.pairwise_cons.mp h1).2 (List.pairwise_cons.mp h2).2]
theorem A7:qP QF fC:=fun ds d Q e q=>by
 unfold fC at e
 split at e
 ·rename_i a
  obtain ⟨ns,e1,e⟩:=bnd e
  by_cases hl:ns.length<64
  ·rw [if_pos hl] at e
   cases e
   show (match L3.intsOf a with | some ns=>ns.length<64 /\ ∀ ns':List Int,ns'.Perm ns->ns'.Pairwise (· <= ·)->Q (.lst (ns'.map D.int)) | none=>False)
   rw [yK,e1]
   refine ⟨hl,fun ns' p s=>?_⟩
   rw [nO (p.trans (lA ns).symm) s (jF ns)]
   exact q
  ·rw [if_neg hl] at e; cases e
 ·cases e
theorem VI {p pos:Pos} {e:Expr} {t:AF} (hm:X.mg "sorted" = none) (ha:xC X [e] t) (hg:Gl X "sorted" := by rfl) (he:starEach [e] X.env=(false,eval e X.env)::starEach [] X.env:=by rfl):j6 X (.Call (.Name "sorted" p) [e] [] pos) (bA fC t):=cF (U9 hm ha hg he) (A6 A7)
theorem aAF (T:String) (d:D):EG T d=isT T d:=by cases d<;>rfl
theorem DB {T:String} {x:Str} {e:Expr} {f:EF} {p p2 pos:Pos} (hT:GG T) (hm:X.mg "isinstance" = none) (hmT:X.mg x=none) (hv:bootBuiltins x=some (.type T)) (he:bO X e f) (hg:Gl X "isinstance" := by rfl) (hgT:Gl X x:=by rfl) (hn:x ≠ "__name__" := by decide) (hdb:(x == ("__debug__" : Str))=false:=by decide)
  (hs:starEach [e,.Name x p2] X.env=(false,eval e X.env)::starEach [.Name x p2] X.env:=by rfl) (hs2:starEach [.Name x p2] X.env=(false,eval (.Name x p2) X.env)::starEach [] X.env:=by rfl) (hpl:(backTo pos (starEach [.Name x p2] X.env)).any (·.1)=false:=by rfl) :
  bO X (.Call (.Name "isinstance" p) [e,.Name x p2] [] pos) (iI T f):=cE (aGu hT hm hmT hv he hg hgT hn hdb hs hs2 hpl) fun ρ Q aHp=>by
 obtain ⟨d,e,q⟩:=aHp
 obtain ⟨x,ex,e⟩:=bnd e
 by_cases hx:EH x=true
 ·rw [if_pos hx] at e
  cases e
  exact ⟨x,ex,(by cases x<;>first | trivial | cases hx),by show Q (.bl (isT T x)); rw [<- aAF]; exact q⟩
 ·rw [if_neg hx] at e; cases e
noncomputable def eS (K:PySem.W.Frag) (R:dP):Sp:=sp3 K fun ds Q=>∃ d,R ds=.ok d/\Q d
theorem cB {k:Nat} {f:Addr} {fd:FuncData} {ps:List Str} {R:dP} {x:Str} {p pos:Pos} {e:Expr} {es:List Expr} {t:AF} (F:aU X.prog X.w X.K X.mg X.base d8 k f fd ps (eS X.K R)) (hr:iU k X.A) (hm:X.mg x=some (.ref f)) (hk:PySem.W.keepIn X.K (.ref f)=true) (hb:Binds X.K fd ps [])
  (ha:xC X (e::es) t) (hg:Gl X x:=by rfl) (hdb:(x == ("__debug__" : Str))=false:=by decide) (he:starEach (e::es) X.env=(false,eval e X.env)::starEach es X.env:=by rfl) (hpl:(backTo pos (starEach es X.env)).any (·.1)=false:=by rfl) :
  bO X (.Call (.Name x p) (e::es) [] pos) (aF R t):=cE (aCD F hr hm hk hb ha hg hdb he hpl) fun ρ Q aHq=>by
 obtain ⟨d,e,q⟩:=aHq
 obtain ⟨ds,ed,e⟩:=bnd e
 refine ⟨ds,ed,d,?_,q⟩
 cases h:R ds with
 | ok d'=>rw [h] at e; cases e; rfl
 | no=>rw [h] at e; cases e
 | ex c=>rw [h] at e; cases e
theorem GP {a:Expr} {t:AF} {p pos p2 pos2:Pos} (hc:X.calm=true) (hm:X.mg "list" = none) (hmr:X.mg "range" = none) (ha:xC X [a] t) (hg:Gl X "list" := by rfl) (hgr:Gl X "range" := by rfl) (hs:starEach [a] X.env=[(false,eval a X.env)]:=by rfl)
  (he:starEach [.Call (.Name "range" p2) [a] [] pos2] X.env=(false,eval (.Call (.Name "range" p2) [a] [] pos2) X.env)::starEach [] X.env:=by rfl) :
  j6 X (.Call (.Name "list" p) [.Call (.Name "range" p2) [a] [] pos2] [] pos) (EI t):=cF (GH hc hm hmr ha hg hgr hs he) fun ρ Q aHr=>by
 obtain ⟨d,e,q⟩:=aHr
 obtain ⟨ds,ed,e⟩:=bnd e
 refine ⟨ds,ed,?_⟩
 split at e
 ·rename_i j
  by_cases h:j.natAbs<=16777216
  ·rw [if_pos h] at e; cases e; exact ⟨⟨by omega,by omega⟩,q⟩
  ·rw [if_neg h] at e; cases e
 ·cases e
section
variable {tg:Expr}
theorem kB {l:Expr} {f:EF} (h:bO X l f):PI4 X tg l (bE f):=cI (aCM h) fun ρ Q aHs=>by
 obtain ⟨ds,e,q⟩:=aHs
 obtain ⟨d,ed,e⟩:=bnd e
 refine ⟨d,ed,?_⟩
 cases d<;>first | cases e; done | skip
 all_goals (cases e; exact q)
theorem aAG {fa:EF} {ρ:bN} {as:List D} (h:aA fa aC ρ=some as):∃ a,fa ρ=some a/\as=[a]:=by
 obtain ⟨a,ea,e⟩:=bnd h
 cases e
 exact ⟨a,ea,rfl⟩
theorem iZ {a:Expr} {fa:EF} {p pos:Pos} (hm:X.mg "range" = none) (ha:bO X a fa) (hg:Gl X "range" := by rfl) (hs:starEach [a] X.env=[(false,eval a X.env)]:=by rfl):PI4 X tg (.Call (.Name "range" p) [a] [] pos) (aV (aA fa aC)):=cI (Z1 hm (aG ha aP hs) hg hs) fun ρ Q aHt=>by
 obtain ⟨ds,e,q⟩:=aHt
 obtain ⟨as,ea,e⟩:=bnd e
 refine ⟨as,ea,?_⟩
 obtain ⟨a,ha',rfl⟩:=aAG ea
 clear ea ha'
 cases a<;>first | cases e; done | skip
 rename_i j
 by_cases h:j.natAbs<4611686018427387904
 ·have e:(if j.natAbs<4611686018427387904 then some ((cQ 0 j.toNat).map D.int) else none)=some ds:=e
  rw [if_pos h] at e; cases e; exact ⟨⟨by omega,by omega⟩,q⟩
 ·have e:(if j.natAbs<4611686018427387904 then some ((cQ 0 j.toNat).map D.int) else none)=some ds:=e
  rw [if_neg h] at e; cases e
end
theorem nP {a:Expr} {t:AF} {es:List Expr} {kk:Nat} {tp p pos:Pos} (hm:X.mg "enumerate" = none) (ha:xC X [a] t) (hg:Gl X "enumerate" := by rfl) (hs:starEach [a] X.env=[(false,eval a X.env)]:=by rfl):PI4 X (.Tuple es kk tp) (.Call (.Name "enumerate" p) [a] [] pos) (iW t):=cI (GL hm ha hg hs) fun ρ Q aHu=>by
 obtain ⟨ds,e,q⟩:=aHu
 obtain ⟨as,ea,e⟩:=bnd e
 refine ⟨as,ea,?_⟩
 unfold HJ at e
 split at e<;>first | (cases e; exact q) | cases e
theorem vB {g:EK} {t:TF} {e:EF} {ρ:bN}:∀ (ds acc ys:List D) (Q:D->Prop),iJ g t e ρ ds=some ys->acc.length+ds.length<=sizeLine->Q (.lst (acc++ys))->oU (wGE g) (wT t) (wE e) ρ ds acc Q
 | [],acc,ys,Q,h,_,q=>by
  cases h
  rw [oU]
  simpa using q
 | d::ds,acc,ys,Q,h,hl,q=>by
  rw [oU]
  obtain ⟨ρ1,e1,h⟩:=bnd h
  obtain ⟨b,e2,h⟩:=bnd h
  simp only [List.length_cons] at hl
  refine ⟨ρ1,e1,b,e2,?_⟩
  cases b with
  | true =>
   rw [if_pos rfl] at h ⊢
   obtain ⟨y,e3,h⟩:=bnd h
   obtain ⟨zs,e4,rfl⟩:=xD h
   exact ⟨y,e3,by omega,vB ds (acc++[y]) zs Q e4 (by simp; omega) (by simpa using q)⟩
  | false =>
   rw [if_neg Bool.false_ne_true] at h ⊢
   exact vB ds acc ys Q h (by omega) q
theorem aAH {nl:Nat} {fr:List Nat} {it:AF} {g:EK} {t:TF} {e:EF} (ρ:bN) (Q:D->Prop) (w:wE (bC nl fr it g t e) ρ Q):QD nl fr (wI it) (wGE g) (wT t) (wE e) ρ Q:=by
 obtain ⟨d,h,q⟩:=w
 obtain ⟨ds,e1,h⟩:=bnd h
 refine ⟨ds,e1,?_⟩
 by_cases hl:ds.length<=gX
 ·rw [if_pos hl] at h
  obtain ⟨ys,e2,rfl⟩:=xD h
  exact vB ds [] ys Q e2 (by rw [sizeLine_eq,List.length_nil,Nat.zero_add]; exact hl) (by simpa using q)
 ·rw [if_neg hl] at h; cases h
noncomputable abbrev aAI (X:Cx) (nl:Nat) (tg:Expr) (g:EK):Prop:=PG4 X nl tg (wGE g)
noncomputable abbrev aAJ (X:Cx) (ifs:List Expr) (t:TF):Prop:=U6 X ifs (wT t)
theorem cG {nl:Nat} {tg:Expr} {g g':GE} (h:PG4 X nl tg g) (c:∀ d ρ Q,g' d ρ Q->g d ρ Q):PG4 X nl tg g':=LF h fun _ _ _ _ aHv=>by obtain ⟨S,ρ,d,Q3,hl,fc,sl,dn,hg,k⟩:=aHv; exact ⟨S,ρ,d,Q3,hl,fc,sl,dn,c d ρ Q3 hg,k⟩
theorem jG {nl i:Nat} {x:Str} {pos:Pos} (nd:X.N.Nodup) (hil:i<nl) (hi:X.N[i]? = some x:=by rfl) (hx:Loc X.env.scope x:=by first | exact .inl rfl | exact .inr rfl) (hfx:X.fn x=true\/X.env.scope.names.lookup x=some .local:=by first | exact .inr rfl | exact .inl rfl):aAI X nl (.Name x pos) (g1 i):=cG (aCT nd hil hi hx hfx) fun d ρ Q aHw=>by obtain ⟨ρ',e,q⟩:=aHw; cases e; exact q
theorem JK {d:D} {p:D×D} (h:xN d=some p):d=.tup [p.1,p.2]:=by
 cases d<;>first | (cases h; done) | skip
 rename_i l
 cases l with
 | nil=>cases h
 | cons a l =>
  cases l with
  | nil=>cases h
  | cons b l =>
   cases l with
   | nil=>cases h; rfl
   | cons c l=>cases h
theorem QQ {nl i j:Nat} {x y:Str} {kk:Nat} {pos px py:Pos} (hc:X.calm=true) (nd:X.N.Nodup) (hil:i<nl) (hjl:j<nl) (hi:X.N[i]? = some x:=by rfl) (hj:X.N[j]? = some y:=by rfl) (hx:Loc X.env.scope x:=by first | exact .inl rfl | exact .inr rfl) (hfx:X.fn x=true\/X.env.scope.names.lookup x=some .local:=by first | exact .inr rfl | exact .inl rfl) (hy:Loc X.env.scope y:=by first | exact .inl rfl | exact .inr rfl) (hfy:X.fn y=true\/X.env.scope.names.lookup y=some .local:=by first | exact .inr rfl | exact .inl rfl)
  (hn:(assignEach [.Name x px,.Name y py] X.env).length=2:=by rfl) (hst:(assignEach [.Name x px,.Name y py] X.env).findIdx? (·.1)=none:=by rfl)
  (hs1:(assignEach [.Name x px,.Name y py] X.env).map (·.2)=assign (.Name x px) X.env::(assignEach [.Name y py] X.env).map (·.2):=by rfl) (hs2:(assignEach [.Name y py] X.env).map (·.2)=assign (.Name y py) X.env::(assignEach [] X.env).map (·.2):=by rfl) :
  aAI X nl (.Tuple [.Name x px,.Name y py] kk pos) (g2 i j):=cG (aCU hc nd hil hjl hi hj hx hfx hy hfy hn hst hs1 hs2) fun d ρ Q aHx=>by
 obtain ⟨ρ',e,q⟩:=aHx
 obtain ⟨p,ep,rfl⟩:=xD e
 rw [JK ep]
 exact q
theorem mH:aAJ X [] bF:=fun pins s σ H Q I aHy=>by obtain ⟨S,ρ,Q3,fc,sl,⟨_,e,q⟩,k⟩:=aHy; cases e; exact aGp pins s σ H Q I ⟨S,ρ,Q3,fc,sl,q,k⟩
theorem QR {c:Expr} {t:TF} (h:A4 X c t):aAJ X [c] t:=aCW h
section
variable {ls fs:List Str} {fr:List Nat} {sc:Scope} {tg iter elt:Expr} {ifs:List Expr} {pos:Pos} {it:AF} {g:EK} {t:TF} {e:EF}
theorem kC (hc:X.calm=true) (hi:PI4 X tg iter it)
  (hg:∀ cl C pn ex s H,(blk X (ls++fs) sc cl C pn ex s H).N.Nodup->aAI (blk X (ls++fs) sc cl C pn ex s H) ls.length tg g) (hf:∀ cl C pn ex s H,aAJ (blk X (ls++fs) sc cl C pn ex s H) ifs t) (he:∀ cl C pn ex s H,bO (blk X (ls++fs) sc cl C pn ex s H) elt e)
  (B:chk X.env.scope.names sc X.N ls fs fr=true:=by rfl) (hs:∀ x,foldedSetIterable iter X.env x=pure x:=by intro _; rfl):j6 X (.ListComp elt [⟨tg,iter,ifs,0⟩] sc pos) (bC ls.length fr it g t e):=cF (aCX hc hi hg hf he B hs) aAH
variable {i:Nat} {x:Str} {spos pos':Pos}
end
end
section
variable {X:Cx}
theorem cO {e:Option Expr} {t t':WO} (h:PO3 X e t) (c:∀ ρ Q,t' ρ Q->t ρ Q):PO3 X e t':=fun pins s σ H Q I aHz=>by obtain ⟨S,ρ,Q3,fc,sl,ht,k⟩:=aHz; exact h pins s σ H Q I ⟨S,ρ,Q3,fc,sl,c ρ Q3 ht,k⟩
theorem no4:PO4 X none NG:=cO aHJ fun _ _ aIA=>by obtain ⟨_,e,q⟩:=aIA; cases e; exact q
theorem po4 {e:Expr} {f:EF} (h:bO X e f):PO4 X (some e) (oE f):=cO (po3 h) fun ρ Q aIB=>by
 obtain ⟨o,e,q⟩:=aIB
 obtain ⟨d,ed,e⟩:=bnd e
 obtain ⟨i,ei,rfl⟩:=xD e
 refine ⟨d,ed,?_⟩
 cases d<;>first | cases ei; done | skip
 cases ei; exact q
theorem sl4 {e:Expr} {lo hi:Option Expr} {p2 pos:Pos} {f:EF} {fl fh:OF} (he:bO X e f) (hl:PO4 X lo fl) (hh:PO4 X hi fh):bO X (.Subscript e (.Slice lo hi none p2) pos) (NH f fl fh):=cE (sl3 he hl hh) fun ρ Q aIC=>by
 obtain ⟨r,e,q⟩:=aIC
 obtain ⟨d,ed,e⟩:=bnd e
 obtain ⟨l,el,e⟩:=bnd e
 obtain ⟨h,eh,e⟩:=bnd e
 refine ⟨d,ed,l,el,h,eh,?_⟩
 cases d<;>first | cases e; done | skip
 all_goals (cases e; exact q)
theorem px4 {e:Expr} {f:EF} (h:bO X e f):QM X e (mE f):=cX (px3 h) fun ρ Q aID=>by
 obtain ⟨p,e,q⟩:=aID
 obtain ⟨d,ed,e⟩:=bnd e
 refine ⟨d,ed,?_⟩
 by_cases hi:d.tJ=true
 ·rw [if_pos hi] at e; cases e; exact ⟨hi,q⟩
 ·rw [if_neg hi] at e; cases e
theorem A8 {e:Expr} {f:EF} (h:bO X e f):QM X e (aM f):=cX (aGW h) fun ρ Q aIE=>by
 obtain ⟨p,e,q⟩:=aIE
 obtain ⟨d,ed,e⟩:=bnd e
 cases e
 exact ⟨d,ed,q⟩
theorem GQ {o:Option Sv} {ds:List D} (h:mQ o=some ds):o=some (.ow (.lst ds)):=by
 unfold mQ at h
 split at h
 ·cases h; rfl
 ·cases h
noncomputable def A9 (f:List D->D->(List D->D->Prop)->Prop) (m:List D->D->Option (List D×D)):Prop:=∀ ds d q (Q:List D->D->Prop),m ds d=some q->Q q.1 q.2->f ds d Q
theorem aAK {i:Nat} {f:List D->D->(List D->D->Prop)->Prop} {m:List D->D->Option (List D×D)} (h:A9 f m) {x:XF} (ρ:aT) (Q:aT->D->Prop) (w:wX (iR i m x) ρ Q):wM1 i f (wX x) ρ Q:=by
 obtain ⟨r,e,q⟩:=w
 obtain ⟨ds0,e0,e⟩:=bnd e
 obtain ⟨p,ep,e⟩:=bnd e
 obtain ⟨ds,e1,e⟩:=bnd e
 obtain ⟨z,ez,rfl⟩:=xD e
 have o0:=GQ e0
 have o1:=GQ e1
 refine ⟨by rw [o0]; trivial,p,ep,?_⟩
 show (match p.1[i]? with | some (.ow (.lst ds))=>f ds p.2 fun ds' r=>Q (p.1.set i (.ow (.lst ds'))) r | _=>False)
 rw [o1]
 exact h ds p.2 z _ ez q
theorem LV:A9 ZV eF:=fun ds d q Q e k=>by
 unfold eF at e
 by_cases h:ds.length<gX
 ·rw [if_pos h] at e; cases e; exact ⟨by rw [sizeLine_eq]; exact h,k⟩
 ·rw [if_neg h] at e; cases e
theorem LW:A9 ZX NI:=fun ds d q Q e k=>by
 cases d<;>first | cases e; done | skip
 rename_i i
 have e:(if i.natAbs<9223372036854775808 then (V0 ds.length i).bind fun j=>(ds[j]?).map fun d=>(ds.eraseIdx j,d) else none)=some q:=e
 by_cases h:i.natAbs<9223372036854775808
 ·rw [if_pos h] at e
  obtain ⟨j,ej,e⟩:=bnd e
  obtain ⟨d,ed,rfl⟩:=xD e
  have ej:UI ds.length i=some j:=ej
  refine ⟨⟨by omega,by omega⟩,?_⟩
  show (match UI ds.length i with | some j=>(match ds[j]? with | some d=>Q (ds.eraseIdx j) d | none=>False) | none=>False)
  rw [ej]
  dsimp only
  rw [ed]
  exact k
 ·rw [if_neg h] at e; cases e
theorem LX:A9 Z8 BX:=fun ds d q Q e k=>by
 cases d<;>first | cases e; done | skip
 rename_i es
 have e:(if ds.length+es.length<=gX then some (ds++es,D.non) else none)=some q:=e
 by_cases h:ds.length+es.length<=gX
 ·rw [if_pos h] at e; cases e; exact ⟨by rw [sizeLine_eq]; exact h,k⟩
 ·rw [if_neg h] at e; cases e
section
variable {i:Nat} {x:Str} {e:Expr} {p apos cpos:Pos} {f:XF}
theorem LY (he:QM X e f) (hN:X.N[i]? = some x:=by rfl) (hv:FE X.env.scope x:=by first | exact Or.inl rfl | exact Or.inr (Or.inl rfl) | exact Or.inr (Or.inr rfl)) (hd:(x == ("__debug__" : Str))=false:=by decide) (hcd:(x == ("__classdict__" : Str))=false:=by decide)
  (hbase:attributeBase (.Name x p) "append" X.env (eval (.Name x p) X.env)=eval (.Name x p) X.env:=by rfl)
  (hfew:((backTo cpos (starEach [e] X.env)).all (fun x=>!x.1)&&(backToKw cpos (keywordEach [] X.env)).all (fun x=>x.1.isSome)
   && decide ([e].length+([]:List Keyword).length+(if ([]:List Keyword).isEmpty then 0 else 1)<30))=true:=by rfl)
  (hline:(apos.endLine == cpos.line)=true:=by rfl) (hs:starEach [e] X.env=(false,eval e X.env)::starEach [] X.env:=by rfl) :
  QM X (.Call (.Attribute (.Name x p) "append" apos) [e] [] cpos) (iR i eF f):=cX (aGZ he hN hv hd hcd hbase hfew hline hs) (aAK LV)
theorem aIF (he:QM X e f) (hN:X.N[i]? = some x:=by rfl) (hv:FE X.env.scope x:=by first | exact Or.inl rfl | exact Or.inr (Or.inl rfl) | exact Or.inr (Or.inr rfl)) (hd:(x == ("__debug__" : Str))=false:=by decide) (hcd:(x == ("__classdict__" : Str))=false:=by decide)
  (hbase:attributeBase (.Name x p) "pop" X.env (eval (.Name x p) X.env)=eval (.Name x p) X.env:=by rfl)
  (hfew:((backTo cpos (starEach [e] X.env)).all (fun x=>!x.1)&&(backToKw cpos (keywordEach [] X.env)).all (fun x=>x.1.isSome)
   && decide ([e].length+([]:List Keyword).length+(if ([]:List Keyword).isEmpty then 0 else 1)<30))=true:=by rfl)
  (hline:(apos.endLine == cpos.line)=true:=by rfl) (hs:starEach [e] X.env=(false,eval e X.env)::starEach [] X.env:=by rfl) :
  QM X (.Call (.Attribute (.Name x p) "pop" apos) [e] [] cpos) (iR i NI f):=cX (aG0 he hN hv hd hcd hbase hfew hline hs) (aAK LW)
theorem JL (he:QM X e f) (hN:X.N[i]? = some x:=by rfl) (hv:FE X.env.scope x:=by first | exact Or.inl rfl | exact Or.inr (Or.inl rfl) | exact Or.inr (Or.inr rfl)) (hd:(x == ("__debug__" : Str))=false:=by decide) (hcd:(x == ("__classdict__" : Str))=false:=by decide)
  (hbase:attributeBase (.Name x p) "extend" X.env (eval (.Name x p) X.env)=eval (.Name x p) X.env:=by rfl)
  (hfew:((backTo cpos (starEach [e] X.env)).all (fun x=>!x.1)&&(backToKw cpos (keywordEach [] X.env)).all (fun x=>x.1.isSome)
   && decide ([e].length+([]:List Keyword).length+(if ([]:List Keyword).isEmpty then 0 else 1)<30))=true:=by rfl)
  (hline:(apos.endLine == cpos.line)=true:=by rfl) (hs:starEach [e] X.env=(false,eval e X.env)::starEach [] X.env:=by rfl) :
  QM X (.Call (.Attribute (.Name x p) "extend" apos) [e] [] cpos) (iR i BX f):=cX (VA he hN hv hd hcd hbase hfew hline hs) (aAK LX)
end
theorem nQ:A5 X [] cM:=cSs aGD fun _ _ w=>w
theorem aCm {f g:SF} (E:DE) (ρ:aT) (w:wS (aH f g) E ρ):ZT (wS f) (wS g) E ρ:=by
 unfold wS aH at w
 unfold ZT wS
 cases h:f ρ with
 | nx ρ'=>rw [h] at w; exact w
 | rt d=>rw [h] at w; exact w
 | no=>rw [h] at w; exact w
 | ex c=>rw [h] at w; exact w
theorem bU {st:Stmt} {rest:List Stmt} {f g:SF} (h1:C6 X st f) (h2:A5 X rest g):A5 X (st::rest) (aH f g):=cSs (aGF h1 h2) aCm
theorem bG {st:Stmt} {f:SF} (h1:C6 X st f):A5 X [st] f:=aCF h1
theorem aAL {st:Stmt}:C6 X st (fun _=>.no):=fun pins s σ H D I aIG=>by obtain ⟨_,_,_,_,_,_,_,_,ht,_⟩:=aIG; exact ht.elim
theorem fW {e:Expr} {f:EF} {pos:Pos} (h:bO X e f):C6 X (.Return (some e) pos) (aQ f):=cS (aGI h) fun E ρ w=>by
 unfold wS aQ at w
 cases h:f (bQ ρ) with
 | none=>rw [h] at w; exact w.elim
 | some d=>rw [h] at w; exact ⟨d,h,w⟩
theorem lZ {c:Expr} {a b:List Stmt} {pos:Pos} {t:TF} {f g:SF} (hc:A4 X c t) (ha:A5 X a f) (hb:A5 X b g):C6 X (.If c a b pos) (fD t f g):=cS (aGL hc ha hb) fun E ρ w=>by
 unfold wS fD at w
 cases h:t (bQ ρ) with
 | none=>rw [h] at w; exact w.elim
 | some c =>
  rw [h] at w
  refine ⟨c,h,?_⟩
  cases c with
  | true=>rw [if_pos rfl]; exact w
  | false=>rw [if_neg Bool.false_ne_true]; exact w
section
variable {i:Nat} {x:Str} {e:Expr} {f:EF} {pos pos':Pos}
theorem gG (hN:X.N.Nodup) (he:bO X e f) (hi:X.N[i]? = some x:=by rfl) (hx:Loc X.env.scope x:=by first | exact .inl rfl | exact .inr rfl) (hs:swapsWith e (some (.Name x pos')) pos.line X.env=pure false:=by rfl) (hf:X.fn x=true\/X.env.scope.names.lookup x=some .local:=by first | exact .inl rfl | exact .inr rfl) :
  C6 X (.Assign [.Name x pos'] e pos) (aN i f):=cS (aGP hN he hi hx hs hf) fun E ρ w=>by
 unfold wS aN at w
 cases h:f (jY ρ) with
 | none=>rw [h] at w; exact w.elim
 | some d=>rw [h] at w; exact ⟨d,h,w⟩
theorem DC (hN:X.N.Nodup) (he:j6 X e f) (hi:X.N[i]? = some x:=by rfl) (hx:Loc X.env.scope x:=by first | exact .inl rfl | exact .inr rfl) (hs:swapsWith e (some (.Name x pos')) pos.line X.env=pure false:=by rfl) (hf:X.fn x=true\/X.env.scope.names.lookup x=some .local:=by first | exact .inl rfl | exact .inr rfl) :
  C6 X (.Assign [.Name x pos'] e pos) (fR i f):=cS (aGR hN he hi hx hs hf) fun E ρ w=>by
 unfold wS fR at w
 cases h:f (jY ρ) with
 | none=>rw [h] at w; exact w.elim
 | some d=>rw [h] at w; exact ⟨d,h,w⟩
theorem aCn (hN:X.N.Nodup) (he:j6 X e f) (hi:X.N[i]? = some x:=by rfl) (hx:Loc X.env.scope x:=by first | exact .inl rfl | exact .inr rfl) (hs:swapsWith e (some (.Name x pos')) pos.line X.env=pure false:=by rfl) (hf:X.fn x=true\/X.env.scope.names.lookup x=some .local:=by first | exact .inl rfl | exact .inr rfl) :
  C6 X (.Assign [.Name x pos'] e pos) (rG i f):=cS (aCH hN he hi hx hs hf) fun E ρ w=>by
 unfold wS rG at w
 cases h:f (bQ ρ) with
 | none=>rw [h] at w; exact w.elim
 | some d =>
  rw [h] at w
  dsimp only at w
  by_cases hl:kJ d=true
  ·rw [if_pos hl] at w
   refine ⟨d,h,?_,w⟩
   cases d<;>first | exact hl | cases hl
  ·rw [if_neg hl] at w; exact w.elim
theorem aCo (hN:X.N.Nodup) (he:j6 X e f) (hi:X.N[i]? = some x:=by rfl) (hx:Loc X.env.scope x:=by first | exact .inl rfl | exact .inr rfl) (hs:swapsWith e (some (.Name x pos')) pos.line X.env=pure false:=by rfl) (hf:X.fn x=true\/X.env.scope.names.lookup x=some .local:=by first | exact .inl rfl | exact .inr rfl) :
  C6 X (.Assign [.Name x pos'] e pos) (rH i f):=cS (aC3 hN he hi hx hs hf) fun E ρ w=>by
 unfold wS rH at w
 cases h:f (bQ ρ) with
 | none=>rw [h] at w; exact w.elim
 | some d =>
  rw [h] at w
  dsimp only at w
  by_cases hl:kJ d=true
  ·rw [if_pos hl] at w
   refine ⟨d,h,?_,w⟩
   cases d<;>first | exact hl | cases hl
  ·rw [if_neg hl] at w; exact w.elim
theorem QS {p:Pos} (hN:X.N.Nodup) (hi:X.N[i]? = some x:=by rfl) (hx:Loc X.env.scope x:=by first | exact .inl rfl | exact .inr rfl) (hs:swapsWith (.Dict [] [] p) (some (.Name x pos')) pos.line X.env=pure false:=by rfl) (hf:X.fn x=true\/X.env.scope.names.lookup x=some .local:=by first | exact .inl rfl | exact .inr rfl) :
  C6 X (.Assign [.Name x pos'] (.Dict [] [] p) pos) (BY i):=cS (QH hN hi hx hs hf) fun E ρ w=>w
end
theorem mI {e:Expr} {f:XF} {pos:Pos} (he:QM X e f) (hs:swapsWith e none pos.line X.env=pure false:=by rfl):C6 X (.Expr e pos) (sX f):=cS (aCK he hs) fun E ρ w=>by
 unfold wS sX at w
 cases h:f ρ with
 | none=>rw [h] at w; exact w.elim
 | some d=>rw [h] at w; exact ⟨d,h,w⟩
theorem LZ {o:Option Sv} {p:List (Sum Int Str)×List D} (h:tN o=some p):o=some (.ow (.iQ p.1 p.2)):=by
 unfold tN at h
 split at h
 ·cases h; rfl
 ·cases h
theorem aCp {i:Nat} {x:Str} {e k:Expr} {f:XF} {fk:EF} {pos pos' p:Pos} (hu:X.A.units+1<cLine) (he:QM X e f) (hk:bO X k fk)
  (hN:X.N[i]? = some x:=by rfl) (hv:FE X.env.scope x:=by first | exact Or.inl rfl | exact Or.inr (Or.inl rfl) | exact Or.inr (Or.inr rfl)) (hd:(x == ("__debug__" : Str))=false:=by decide) (hcd:(x == ("__classdict__" : Str))=false:=by decide)
  (hs:swapsWith e (some (.Subscript (.Name x p) k pos')) pos.line X.env=pure false:=by rfl) :
  C6 X (.Assign [.Subscript (.Name x p) k pos'] e pos) (HK i f fk):=cS (aC1 hu he hk hN hv hd hcd hs) fun E ρ w=>by
 unfold wS HK at w
 cases h:((f ρ).bind fun p=>(tN p.1[i]?).bind fun kd=>(fk (bQ p.1)).bind fun kv=>(zE kv).bind fun kk =>
  if (iV kd.1 kd.2 kk).isNone=true/\kd.2.length<gX then some (p.1.set i (.ow (.iQ (kd.1++[kk]) (kd.2++[p.2])))) else none) with
 | none=>rw [h] at w; exact w.elim
 | some ρ' =>
  rw [h] at w
  obtain ⟨q,eq,h⟩:=bnd h
  obtain ⟨kd,ed,h⟩:=bnd h
  obtain ⟨kv,ek,h⟩:=bnd h
  obtain ⟨kk,e2,h⟩:=bnd h
  have o:=LZ ed
  by_cases hc:(iV kd.1 kd.2 kk).isNone=true/\kd.2.length<gX
  ·rw [if_pos hc] at h
   cases h
   refine ⟨q,eq,by rw [o]; trivial,kv,ek,?_⟩
   have e3:CY kv=some kk:=by cases kv<;>first | exact e2 | cases e2
   show (match q.1[i]?,CY kv with
    | some (.ow (.iQ ks ds)),some k=>(iY ks ds k=none/\ds.length<sizeLine)/\E.nx (q.1.set i (.ow (.iQ (ks++[k]) (ds++[q.2]))))
    | _,_=>False)
   rw [o,e3]
   refine ⟨⟨?_,by rw [sizeLine_eq]; exact hc.2⟩,w⟩
   have:=hc.1
   cases hl:iV kd.1 kd.2 kk with
   | none=>exact hl
   | some d=>rw [hl] at this; cases this
  ·rw [if_neg hc] at h; cases h
theorem cGS {tg:Expr} {g g':WG} (h:W3 X tg g) (c:∀ d ρ Q,g' d ρ Q->g d ρ Q):W3 X tg g':=LF h fun _ _ _ _ aCq=>by obtain ⟨H₀,S,w,ρ,G,d,Q3,hl,st,dn,hg,k⟩:=aCq; exact ⟨H₀,S,w,ρ,G,d,Q3,hl,st,dn,c d ρ Q3 hg,k⟩
theorem DD {i:Nat} {x:Str} {pos:Pos} (hN:X.N.Nodup) (hi:X.N[i]? = some x:=by rfl) (hx:Loc X.env.scope x:=by first | exact .inl rfl | exact .inr rfl) (hf:X.fn x=true\/X.env.scope.names.lookup x=some .local:=by first | exact .inl rfl | exact .inr rfl):W3 X (.Name x pos) (wG (pU i)) :=
 cGS (aCO hN hi hx hf) fun d ρ Q aCr=>by obtain ⟨ρ',e,q⟩:=aCr; cases e; exact q
theorem yL {i j:Nat} {x y:Str} {k:Nat} {pos px py:Pos} (hc:X.calm=true) (hN:X.N.Nodup) (hi:X.N[i]? = some x:=by rfl) (hj:X.N[j]? = some y:=by rfl) (hx:Loc X.env.scope x:=by first | exact .inl rfl | exact .inr rfl) (hy:Loc X.env.scope y:=by first | exact .inl rfl | exact .inr rfl)
  (hf:X.fn x=true\/X.env.scope.names.lookup x=some .local:=by first | exact .inl rfl | exact .inr rfl) (hf2:X.fn y=true\/X.env.scope.names.lookup y=some .local:=by first | exact .inl rfl | exact .inr rfl)
  (hn:(assignEach [.Name x px,.Name y py] X.env).length=2:=by rfl) (hst:(assignEach [.Name x px,.Name y py] X.env).findIdx? (·.1)=none:=by rfl)
  (hs1:(assignEach [.Name x px,.Name y py] X.env).map (·.2)=assign (.Name x px) X.env::(assignEach [.Name y py] X.env).map (·.2):=by rfl) (hs2:(assignEach [.Name y py] X.env).map (·.2)=assign (.Name y py) X.env::(assignEach [] X.env).map (·.2):=by rfl) :
  W3 X (.Tuple [.Name x px,.Name y py] k pos) (wG (nY i j)):=cGS (aCP hc hN hi hj hx hy hf hf2 hn hst hs1 hs2) fun d ρ Q aCs=>by
 obtain ⟨ρ',e,q⟩:=aCs
 obtain ⟨p,ep,rfl⟩:=xD e
 rw [JK ep]
 exact q
theorem vC {tg iter:Expr} {body:List Stmt} {it:AF} {g:M9} {b:SF} {pos:Pos} (hc:X.calm=true) (hp:PassesOwn (model X.prog X.w) X.A X.env X.xe) (hi:PI4 X tg iter it) (hg:W3 X tg (wG g)) (hb:A5 X body b)
  (hs:∀ x,foldedSetIterable iter X.env x=pure x:=by intro _; rfl):C6 X (.For tg iter body [] pos) (cR it g b):=cS (aG7 hc hp hi hg hb hs) fun E ρ w=>by
 unfold wS cR at w
 cases h:it (jY ρ) with
 | none=>rw [h] at w; exact w.elim
 | some ds =>
  rw [h] at w
  refine ⟨ds,h,fun i ρ'=>wS (gQ g b (ds.drop i)) E ρ',(by show wS (gQ g b (ds.drop 0)) E ρ; rw [List.drop_zero]; exact w),fun i d ρ' hd iv=>?_,fun ρ' iv=>?_⟩
  ·have hi:i<ds.length:=(List.getElem?_eq_some_iff.mp hd).1
   have e1:ds[i]=d:=(List.getElem?_eq_some_iff.mp hd).2
   have iv:wS (gQ g b (ds.drop i)) E ρ':=iv
   rw [List.drop_eq_getElem_cons hi,e1] at iv
   unfold wS gQ at iv
   cases hg:g d ρ' with
   | none=>rw [hg] at iv; exact iv.elim
   | some ρ1 =>
    rw [hg] at iv
    dsimp only at iv
    refine ⟨ρ1,hg,?_⟩
    unfold wS
    cases hb:b ρ1 with
    | nx ρ2=>rw [hb] at iv; dsimp only; rw [hb]; exact iv
    | rt d=>rw [hb] at iv; dsimp only; rw [hb]; exact iv
    | no=>rw [hb] at iv; dsimp only; rw [hb]; exact iv
    | ex c=>rw [hb] at iv; dsimp only; rw [hb]; exact iv
  ·have iv:wS (gQ g b (ds.drop ds.length)) E ρ':=iv
   rw [List.drop_length] at iv
   exact iv
end
theorem jH {P:Program} {w:World} {K:PySem.W.Frag} {mg:Str->Option Value} {base:Heap} {x qual:Str} {st:Stmt} {f:Addr} {fd:FuncData} {N ps:List Str} {k n np:Nat} {b:SF} (F:nL K x qual st f fd) (S:bJ N ps (aI st)) (hn:N.length=n) (hp:ps.length=np)
  (hbody:∀ (cdv:Value) (A:Around) (outer:List Env) (s:Shared) (H:Hp) (E:XK),iU k (A.deeper (envOfC qual (aI st) s.heap.objs.size f cdv)) ->
   A5 (qI d8 P w K mg base N qual (aI st) f cdv A outer s H E).WD (bD st) b):aU P w K mg base d8 (k+1) f fd ps (eS K (aX n np b)):=by
 subst hn hp
 refine aGU F S (fun ds Q ⟨d,e,q⟩=>?_) fun cdv A outer s H E hr=>⟨_,hbody cdv A outer s H E hr,fun ds Q ⟨d,e,q⟩=>?_⟩
 ·unfold aX at e
  by_cases h:ds.length=ps.length
  ·exact h
  ·rw [if_neg h] at e; cases e
 ·unfold aX at e
  by_cases h:ds.length=ps.length
  ·rw [if_pos h] at e
   have e2:jD N ds=cV N.length ds:=rfl
   unfold wS
   rw [e2]
   cases hb:b (cV N.length ds) with
   | rt d'=>rw [hb] at e; cases e; exact q
   | nx ρ=>rw [hb] at e; cases e; exact q
   | no=>rw [hb] at e; cases e
   | ex c=>rw [hb] at e; cases e
  ·rw [if_neg h] at e; cases e
theorem aCt {P:Program} {w:World} {K:PySem.W.Frag} {mg:Str->Option Value} {base:Heap} {k:Nat} {f:Addr} {fd:FuncData} {ps:List Str}:aU P w K mg base d8 k f fd ps (eS K fun _=>.no) :=
 ⟨fun _ _ _ _ h=>(by obtain ⟨_,_,_,_,_,⟨_,e,_⟩,_⟩:=h; cases e),fun _ _ _ _ _ _ _ _ _ _ _ _ _ h=>(by obtain ⟨_,_,_,_,_,⟨_,e,_⟩,_⟩:=h; cases e)⟩
section
variable {X:Cx} {pins:List (Addr×Obj)} {σ:L2.St} {H:Hp}
theorem sA {s:Shared} {x:V} {v:Value} {k:Bool} {A:Around} {E:Value->Shared->Prop} {Q:Bool->Shared->Prop} (I:Inv X pins σ H s) (rx:RelV x v) (e:x=.bl k\/(∃ p xs,x=.ref p/\(fS X.K H p xs\/fU X.K H p xs)/\k=!xs.isEmpty))
  (q:∀ tk,Q k { s with toks:=tk }):wpAny (model X.prog X.w) A (truthy v) Q E s:=by
 have hs:sizeLine=16777216:=sizeLine_eq
 rcases e with rfl | ⟨p,xs,rfl,hx,rfl⟩
 ·cases rx
  exact wpAny_truthy_bool (q s.toks)
 ·cases rx
  rcases hx with hx | hx
  ·obtain ⟨its,r,pl,hz⟩:=I.list hx
   have hlen:=r.length
   exact wpAny_truthy_list pl.isList (by simp only [List.size_toArray]; omega) (by rw [j5 r]; exact q _)
  ·obtain ⟨its,r,pl,hz⟩:=I.tuple hx
   have hlen:=r.length
   exact truthy_tuple pl (by simp only [List.size_toArray]; omega) (by rw [j5 r]; exact q _)
noncomputable def TrV (K:PySem.W.Frag) (H:Hp) (x:V) (k:Bool):Prop:=x=.bl k\/(∃ p xs,x=.ref p/\(fS K H p xs\/fU K H p xs)/\k=!xs.isEmpty)
theorem yM {n j:Nat} (h:j<n):(List.range n).drop j=j::(List.range n).drop (j+1):=by
 have hl:j<(List.range n).length:=by rw [List.length_range]; exact h
 rw [List.drop_eq_getElem_cons hl,List.getElem_range]
section
variable {it:Addr} {fp wr:List Addr} {n:Nat} {P:Nat->Value->Prop} {St:Nat->Heap->Prop} {R:Result->Shared->Prop} {tr:Nat->Bool}
theorem yN (W:Walks X.prog X.w X.A.in1 it fp wr n P St) (hf:∀ b∈wr,lY X pins H b) (ht:∀ j v,P j v -> ∃ x,RelV x v/\TrV X.K H x (tr j)) :
  ∀ (m j:Nat) (st:Shared),m+j=n->Inv X pins σ H st->St j st.heap->(∀ st',Inv X pins σ H st'->R (.ok (.ret (.bool (((List.range n).drop j).any tr)))) st')->codeAny (model X.prog X.w) X.A (.builtin "any.loop" ⟨[.ref it],[]⟩) R st
 | 0,j,st,hj,I,hS,k=>by
  obtain rfl:j=n:=by omega
  refine codeAny_builtin (F.entry_any_loop) ?_
  rw [Around.under_plainId F.plain_any_loop]
  refine wpAny_bind (W.done st _ _ hS fun h2 t2 kp=>wpAny_bind (wpAny_rule (wpAny_pure ?_)))
  have:=k _ (CZ (t':=t2) I kp hf)
  rwa [List.drop_eq_nil_of_le (by simp)] at this
 | m+1,j,st,hj,I,hS,k=>by
  have hjn:j<n:=by omega
  refine codeAny_builtin (F.entry_any_loop) ?_
  rw [Around.under_plainId F.plain_any_loop]
  refine wpAny_bind (W.item j st _ _ hjn hS fun v h2 t2 pv hS2 kp=>?_)
  have I2:Inv X pins σ H { st with heap:=h2,toks:=t2 }:=CZ (t':=t2) I kp hf
  obtain ⟨x,rx,hx⟩:=ht j v pv
  rw [yM hjn,List.any_cons] at k
  refine wpAny_bind (wpAny_holding (sA I2 rx hx fun t3=>wpAny_bind (wpAny_letGo ?_)))
  have I3:Inv X pins σ H { st with heap:=h2,toks:=t3 }:=I2.tok t3
  cases hb:tr j with
  | false =>
   rw [hb,Bool.false_or] at k
   rw [if_neg Bool.false_ne_true]
   exact wpAny_pure ⟨plainId_quiet F.plain_any_loop _,yN W hf ht m (j+1) _ (by omega) I3 hS2 k⟩
  | true =>
   rw [hb,Bool.true_or] at k
   rw [if_pos rfl]
   exact wpAny_bind (wpAny_rule (wpAny_pure (k _ I3)))
theorem yO (W:Walks X.prog X.w X.A.in1 it fp wr n P St) (hf:∀ b∈wr,lY X pins H b) (ht:∀ j v,P j v -> ∃ x,RelV x v/\TrV X.K H x (tr j)) :
  ∀ (m j:Nat) (st:Shared),m+j=n->Inv X pins σ H st->St j st.heap->(∀ st',Inv X pins σ H st'->R (.ok (.ret (.bool (((List.range n).drop j).all tr)))) st')->codeAny (model X.prog X.w) X.A (.builtin "all.loop" ⟨[.ref it],[]⟩) R st
 | 0,j,st,hj,I,hS,k=>by
  obtain rfl:j=n:=by omega
  refine codeAny_builtin (F.entry_all_loop) ?_
  rw [Around.under_plainId F.plain_all_loop]
  refine wpAny_bind (W.done st _ _ hS fun h2 t2 kp=>wpAny_bind (wpAny_rule (wpAny_pure ?_)))
  have:=k _ (CZ (t':=t2) I kp hf)
  rwa [List.drop_eq_nil_of_le (by simp)] at this
 | m+1,j,st,hj,I,hS,k=>by
  have hjn:j<n:=by omega
  refine codeAny_builtin (F.entry_all_loop) ?_
  rw [Around.under_plainId F.plain_all_loop]
  refine wpAny_bind (W.item j st _ _ hjn hS fun v h2 t2 pv hS2 kp=>?_)
  have I2:Inv X pins σ H { st with heap:=h2,toks:=t2 }:=CZ (t':=t2) I kp hf
  obtain ⟨x,rx,hx⟩:=ht j v pv
  rw [yM hjn,List.all_cons] at k
  refine wpAny_bind (wpAny_holding (sA I2 rx hx fun t3=>wpAny_bind (wpAny_letGo ?_)))
  have I3:Inv X pins σ H { st with heap:=h2,toks:=t3 }:=I2.tok t3
  cases hb:tr j with
  | true =>
   rw [hb,Bool.true_and] at k
   rw [if_pos rfl]
   exact wpAny_pure ⟨plainId_quiet F.plain_all_loop _,yO W hf ht m (j+1) _ (by omega) I3 hS2 k⟩
  | false =>
   rw [hb,Bool.false_and] at k
   rw [if_neg Bool.false_ne_true]
   exact wpAny_bind (wpAny_rule (wpAny_pure (k _ I3)))
end
noncomputable def aAM (f:List Bool->Bool) (K:PySem.W.Frag):List V->Hp->VK->Prop:=fun xs H Q=>∃ a ys bs,xs=[.ref a]/\H a=some (.lst ys)/\bs.length=ys.length/\(∀ (j:Nat) (y:V) (b:Bool),ys[j]? = some y->bs[j]? = some b->TrV K H y b)/\Q (.bl (f bs)) H
theorem L1 (hc:X.calm=true):fK X (.builtin "any") (aAM (fun bs=>bs.any id) X.K):=by
 intro pins s σ H xs us Q I r h
 obtain ⟨a,ys,bs,rfl,ha,hl,ht,q⟩:=h
 obtain ⟨u,rfl,ru⟩:=vals1 r
 cases ru
 obtain ⟨its,rv,p,hz⟩:=I.list (fS.of ha)
 have hlt:a<s.heap.objs.size:=by obtain ⟨o,n,e,_⟩:=p; exact Heap.lt_size e
 have hn:its.length=ys.length:=rv.length.symm
 have ht2:∀ j v,its.toArray[j]? = some v -> ∃ x,RelV x v/\TrV X.K H x (bs.getD j true):=fun j v e=>by
  have e1:its[j]? = some v:=by simpa using e
  have hj:j<ys.length:=by have:=(List.getElem?_eq_some_iff.mp e1).1; omega
  obtain ⟨u,e2,ru⟩:=rv.get (List.getElem?_eq_getElem hj)
  rw [e1] at e2
  cases e2
  refine ⟨_,ru,ht j _ _ (List.getElem?_eq_getElem hj) ?_⟩
  rw [List.getD_eq_getElem?_getD,List.getElem?_eq_getElem (by omega)]
  rfl
 refine call_function_tree (F.kind_any) F.plain_any F.entry_any (F.args_any1 _) ?_
 unfold Builtin.«any»
 refine wpAny_bind (m:=oneArg "any" _) (wpAny_pure (wpAny_bind (wpAny_pyIter_list p.isList (wpAny_pure ⟨plainId_quiet F.plain_any_loop _,?_⟩))))
 have hfr:H s.heap.objs.size=none:=I.hok.fresh (Nat.le_refl _)
 have I1:Inv X pins σ H { s with heap:=s.heap.push { cls:=.type "list_iterator",data:=.fields #[.ref a,rawInt 0] } }:=I.kept (t':=s.toks) fun b o e=>Heap.get?_push_of_some _ e
 refine yN (X:=X) (pins:=pins) (σ:=σ) (H:=H) (tr:=fun j=>bs.getD j true) (Walks.list (A:=X.A.in1) (show X.A.in1.handled=none from I.ok.hd hc) s.heap.objs.size a (Nat.ne_of_lt hlt) its.toArray) (fun b hb=>?_) ht2 its.toArray.size 0 _ rfl I1
  ⟨⟨_,Heap.get?_push_size _ rfl,rfl,rfl⟩,p.isList.at fun o e=>Heap.get?_push_of_some _ e⟩ fun st' I'=>?_
 ·cases List.mem_singleton.mp hb
  exact I.FG (Nat.le_refl _) hfr
 ·refine ⟨.bl _,H,I',rfl,?_⟩
  rw [List.drop_zero,show its.toArray.size=bs.length by simp [hn,hl],range_any]
  exact q
theorem MA (hc:X.calm=true):fK X (.builtin "all") (aAM (fun bs=>bs.all id) X.K):=by
 intro pins s σ H xs us Q I r h
 obtain ⟨a,ys,bs,rfl,ha,hl,ht,q⟩:=h
 obtain ⟨u,rfl,ru⟩:=vals1 r
 cases ru
 obtain ⟨its,rv,p,hz⟩:=I.list (fS.of ha)
 have hlt:a<s.heap.objs.size:=by obtain ⟨o,n,e,_⟩:=p; exact Heap.lt_size e
 have hn:its.length=ys.length:=rv.length.symm
 have ht2:∀ j v,its.toArray[j]? = some v -> ∃ x,RelV x v/\TrV X.K H x (bs.getD j true):=fun j v e=>by
  have e1:its[j]? = some v:=by simpa using e
  have hj:j<ys.length:=by have:=(List.getElem?_eq_some_iff.mp e1).1; omega
  obtain ⟨u,e2,ru⟩:=rv.get (List.getElem?_eq_getElem hj)
  rw [e1] at e2
  cases e2
  refine ⟨_,ru,ht j _ _ (List.getElem?_eq_getElem hj) ?_⟩
  rw [List.getD_eq_getElem?_getD,List.getElem?_eq_getElem (by omega)]
  rfl
 refine call_function_tree (F.kind_all) F.plain_all F.entry_all (F.args_all1 _) ?_
 unfold Builtin.«all»
 refine wpAny_bind (m:=oneArg "all" _) (wpAny_pure (wpAny_bind (wpAny_pyIter_list p.isList (wpAny_pure ⟨plainId_quiet F.plain_all_loop _,?_⟩))))
 have hfr:H s.heap.objs.size=none:=I.hok.fresh (Nat.le_refl _)
 have I1:Inv X pins σ H { s with heap:=s.heap.push { cls:=.type "list_iterator",data:=.fields #[.ref a,rawInt 0] } }:=I.kept (t':=s.toks) fun b o e=>Heap.get?_push_of_some _ e
 refine yO (X:=X) (pins:=pins) (σ:=σ) (H:=H) (tr:=fun j=>bs.getD j true) (Walks.list (A:=X.A.in1) (show X.A.in1.handled=none from I.ok.hd hc) s.heap.objs.size a (Nat.ne_of_lt hlt) its.toArray) (fun b hb=>?_) ht2 its.toArray.size 0 _ rfl I1
  ⟨⟨_,Heap.get?_push_size _ rfl,rfl,rfl⟩,p.isList.at fun o e=>Heap.get?_push_of_some _ e⟩ fun st' I'=>?_
 ·cases List.mem_singleton.mp hb
  exact I.FG (Nat.le_refl _) hfr
 ·refine ⟨.bl _,H,I',rfl,?_⟩
  rw [List.drop_zero,show its.toArray.size=bs.length by simp [hn,hl],range_all]
  exact q
theorem W8 {K:PySem.W.Frag} {S:Addr->Prop} {H:Hp}:∀ {es:List D} {ys:List V} {bs:List Bool},aR K S H es ys->mP es=some bs->bs.length=ys.length /\ ∀ (j:Nat) (y:V) (b:Bool),ys[j]? = some y->bs[j]? = some b->TrV K H y b
 | [],ys,bs,dn,h=>by
  simp only [aR] at dn
  subst dn
  cases h
  exact ⟨rfl,fun j y b e=>by simp at e⟩
 | d::es,ys,bs,dn,h=>by
  obtain ⟨v,r,rfl,h1,h2⟩:=dn.bR
  obtain ⟨b,eb,h⟩:=bnd h
  obtain ⟨bs',e2,rfl⟩:=xD h
  obtain ⟨hl,ih⟩:=W8 h2 e2
  refine ⟨by simp [hl],fun j y c ey ec=>?_⟩
  cases j with
  | zero =>
   simp at ey ec
   subst ey ec
   cases d<;>first | cases eb; done | skip
   ·cases eb; simp only [Dn] at h1; exact .inl h1
   ·cases eb; simp only [Dn] at h1; obtain ⟨a,xs,rfl,ha,da⟩:=h1; exact .inr ⟨a,xs,rfl,.inr (fU.of ha),by rw [<- da.empty]⟩
   ·cases eb; simp only [Dn] at h1; obtain ⟨a,xs,rfl,ha,_,da⟩:=h1; exact .inr ⟨a,xs,rfl,.inl (fS.of ha),by rw [<- da.empty]⟩
  | succ j=>exact ih j y c (by simpa using ey) (by simpa using ec)
noncomputable def trF (f:List Bool->Bool):F1
 | [.lst es],Q=>∃ bs,mP es=some bs/\Q (.bl (f bs))
 | _,_=>False
theorem QT {K:PySem.W.Frag} {f:List Bool->Bool}:C3 K (aAM f K) (trF f):=by
 intro S H xs ds Q3 Q fc hd hf k
 match ds,hf with
 | [.lst es],⟨bs,eb,q⟩ =>
  obtain ⟨v,r,rfl,h1,h2⟩:=hd.bR
  simp only [aR] at h2
  subst h2
  simp only [Dn] at h1
  obtain ⟨a,ys,rfl,ha,sa,da⟩:=h1
  obtain ⟨hl,ht⟩:=W8 da eb
  exact ⟨a,ys,bs,rfl,ha,hl,ht,k _ H _ (Same.refl H) (by simp only [Dn]) q⟩
theorem aCu {p pos:Pos} {e:Expr} {t:AF} (hc:X.calm=true) (hm:X.mg "any" = none) (ha:xC X [e] t) (hg:Gl X "any" := by rfl) (he:starEach [e] X.env=(false,eval e X.env)::starEach [] X.env:=by rfl):bO X (.Call (.Name "any" p) [e] [] pos) (bA anyM t) :=
 cE (AZ (L1 hc) QT PyProof.Rows.boot_any hg hm ha (by decide) (by decide) he (by rfl)) (A6 fun ds d Q e q=>by
  unfold anyM at e
  split at e
  ·obtain ⟨bs,eb,rfl⟩:=xD e; exact ⟨bs,eb,q⟩
  ·cases e)
theorem aCv {p pos:Pos} {e:Expr} {t:AF} (hc:X.calm=true) (hm:X.mg "all" = none) (ha:xC X [e] t) (hg:Gl X "all" := by rfl) (he:starEach [e] X.env=(false,eval e X.env)::starEach [] X.env:=by rfl):bO X (.Call (.Name "all" p) [e] [] pos) (bA allM t) :=
 cE (AZ (MA hc) QT PyProof.Rows.boot_all hg hm ha (by decide) (by decide) he (by rfl)) (A6 fun ds d Q e q=>by
  unfold allM at e
  split at e
  ·obtain ⟨bs,eb,rfl⟩:=xD e; exact ⟨bs,eb,q⟩
  ·cases e)
end
end L4
end
section
namespace L3
open PySem PySem.Spec PyProof.Rows L2
namespace Rv
end Rv
section
variable {prog:Program} {w:World} {A:Around} {E:Value->Shared->Prop} {s:Shared}
end
section
variable {X:Cx} {tg:Expr}
end
section
variable {prog:Program} {w:World} {A:Around} {E:Value->Shared->Prop} {s:Shared}
end
section
variable {X:Cx}
end
end L3
namespace L4
open PySem PySem.Spec PyProof.Rows L2 L3
section
variable {X:Cx} {tg:Expr}
end
end L4
end
section
namespace L4
open PySem PySem.Spec PyProof.Rows L2 L3 PySem.W
noncomputable def told (lt:Nat->Nat->Bool) {α:Type}:KasT α->α
 | .ret a=>a
 | .ask i j k=>told lt (k (lt i j))
theorem iA {lt:Nat->Nat->Bool} {α β:Type} (f:α->KasT β):∀ t:KasT α,told lt (t.bind f)=told lt (f (told lt t))
 | .ret _=>rfl
 | .ask i j k=>iA f (k (lt i j))
section
variable {lt:Nat->Nat->Bool}
noncomputable def Up (lt:Nat->Nat->Bool) (p:Array Nat) (k:Nat):Prop:=∀ i j,i<j->j<k->lt (p.getD j 0) (p.getD i 0)=false
noncomputable def NC (lt:Nat->Nat->Bool) (p:Array Nat) (k:Nat):Prop:=∀ i j,i<j->j<k->lt (p.getD i 0) (p.getD j 0)=false
structure sS (lt:Nat->Nat->Bool):Prop where
 as:∀ a b,lt a b=true->lt b a=false
 tr:∀ a b c,lt b a=false->lt c b=false->lt c a=false
theorem sS.R7 (O:sS lt) (x:Nat):lt x x=false:=by
 cases hb:lt x x with
 | false=>rfl
 | true=>have:=O.as _ _ hb; rw [hb] at this; exact this
theorem h8 {p:Array Nat} {i:Nat}:p.getD i 0=(p[i]?).getD 0:=by
 rw [Array.getD_eq_getD_getElem?]
theorem gP {p:Array Nat} {i j:Nat} (hj:j<=p.size) (k:Nat):(kas_rev p i j).getD k 0=if i<=k/\k<j then p.getD (i+j - 1 - k) 0 else p.getD k 0:=by
 unfold kas_rev
 rw [h8,getElem?_mirror_all hj]
 split<;>rw [h8]
theorem vD (p:Array Nat) (i j:Nat):(kas_rev p i j).size=p.size:=mirror_size _ _ _ _
theorem fX (p:Array Nat) (i j:Nat):(kas_rev p i j).Perm p:=mirror_perm _ _ _ _
theorem GR (O:sS lt) (p:Array Nat):∀ f n,1<=n->Up lt p n->n<=told lt (kas_asc p f n)/\told lt (kas_asc p f n)<=n+f/\Up lt p (told lt (kas_asc p f n))/\(told lt (kas_asc p f n)<n+f->lt (p.getD (told lt (kas_asc p f n)) 0) (p.getD (told lt (kas_asc p f n) - 1) 0)=true)
 | 0,n,h1,hu=>⟨Nat.le_refl _,Nat.le_refl _,hu,fun h=>absurd h (Nat.lt_irrefl _)⟩
 | f+1,n,h1,hu=>by
  show n<=told lt (if lt (p.getD n 0) (p.getD (n - 1) 0)=true then KasT.ret n else kas_asc p f (n+1))/\told lt (if lt (p.getD n 0) (p.getD (n - 1) 0)=true then KasT.ret n else kas_asc p f (n+1))<=n+(f+1)/\Up lt p (told lt (if lt (p.getD n 0) (p.getD (n - 1) 0)=true then KasT.ret n else kas_asc p f (n+1)))/\(told lt (if lt (p.getD n 0) (p.getD (n - 1) 0)=true then KasT.ret n else kas_asc p f (n+1))<n+(f+1)->lt (p.getD (told lt (if lt (p.getD n 0) (p.getD (n - 1) 0)=true then KasT.ret n else kas_asc p f (n+1))) 0) (p.getD (told lt (if lt (p.getD n 0) (p.getD (n - 1) 0)=true then KasT.ret n else kas_asc p f (n+1)) - 1) 0)=true)
  cases hc:lt (p.getD n 0) (p.getD (n - 1) 0) with
  | true=>exact ⟨Nat.le_refl _,by show n<=n+(f+1); omega,hu,fun _=>hc⟩
  | false =>
   rw [if_neg Bool.false_ne_true]
   have hu2:Up lt p (n+1):=fun i j hij hj=>by
    by_cases hj2:j<n
    ·exact hu i j hij hj2
    ·have:j=n:=by omega
     subst this
     by_cases hi:i=j - 1
     ·subst hi; exact hc
     ·exact O.tr _ _ _ (hu i (j - 1) (by omega) (by omega)) hc
   obtain ⟨a,b,c,d⟩:=GR O p f (n+1) (by omega) hu2
   exact ⟨by omega,by omega,c,fun h=>d (by omega)⟩
theorem aAN {p:Array Nat} {n:Nat} (hn:n<=p.size) (h:NC lt p n):Up lt (kas_rev p 0 n) n:=fun i j hij hj=>by
 rw [gP hn,gP hn,if_pos ⟨by omega,hj⟩,if_pos ⟨by omega,by omega⟩]
 exact h _ _ (by omega) (by omega)
noncomputable def Last (lt:Nat->Nat->Bool) (p:Array Nat) (n q:Nat):Prop:=q+1<=n /\ ∀ i j,n - (q+1)<=i->i<n->n - (q+1)<=j->j<n->lt (p.getD i 0) (p.getD j 0)=false
theorem rev_last {p:Array Nat} {n q:Nat} (hn:n<=p.size) (h:NC lt p n) (l:Last lt p n q):NC lt (kas_rev p (n - (q+1)) n) n:=fun i j hij hj=>by
 have:=l.1
 rw [gP hn,gP hn]
 by_cases h1:n - (q+1)<=i
 ·rw [if_pos ⟨h1,by omega⟩,if_pos ⟨by omega,hj⟩]
  exact l.2 _ _ (by omega) (by omega) (by omega) (by omega)
 ·rw [if_neg (by omega)]
  by_cases h2:n - (q+1)<=j
  ·rw [if_pos ⟨h2,hj⟩]; exact h _ _ (by omega) (by omega)
  ·rw [if_neg (by omega)]; exact h i j hij hj
theorem jM (O:sS lt) {p:Array Nat} {n:Nat} (h1:1<=n) (h:NC lt p n) (hc:lt (p.getD (n - 1) 0) (p.getD n 0)=false):NC lt p (n+1):=fun i j hij hj=>by
 by_cases hj2:j<n
 ·exact h i j hij hj2
 ·have:j=n:=by omega
  subst this
  by_cases hi:i=j - 1
  ·subst hi; exact hc
  ·exact O.tr _ _ _ hc (h i (j - 1) (by omega) (by omega))
theorem QU {p:Array Nat} {n q:Nat} (hn:n<p.size):(kas_rev p (n - (q+1)) n).getD n 0=p.getD n 0:=by
 rw [gP (Nat.le_of_lt hn),if_neg (by omega)]
theorem tI (O:sS lt):∀ f (p:Array Nat) n q,1<=n->n+f<=p.size->NC lt p n->Last lt p n q -> ∀ r,r=told lt (kas_desc f p n q)->r.1.Perm p/\r.2.1<=n+f/\n<=r.2.1/\NC lt r.1 r.2.1/\Last lt r.1 r.2.1 r.2.2
 | 0,p,n,q,_,_,h,l,r,er=>by subst er; exact ⟨Array.Perm.refl _,Nat.le_refl _,Nat.le_refl _,h,l⟩
 | f+1,p,n,q,h1,hs,h,l,r,er=>by
  have er:r=told lt (if lt (p.getD n 0) (p.getD (n - 1) 0)=true then (if q>0 then kas_desc f (kas_rev p (n - (q+1)) n) (n+1) 0 else kas_desc f p (n+1) 0) else .ask (p.getD (n - 1) 0) (p.getD n 0) fun d=>if d=true then .ret (p,n,q) else kas_desc f p (n+1) (q+1)):=er
  have one:∀ p:Array Nat,Last lt p (n+1) 0:=fun p=>⟨by omega,fun i j a b c d=>by
   have e1:i=n:=by omega
   have e2:j=n:=by omega
   rw [e1,e2]; exact O.R7 _⟩
  cases hc:lt (p.getD n 0) (p.getD (n - 1) 0) with
  | true =>
   rw [hc,if_pos rfl] at er
   have hc2:=O.as _ _ hc
   by_cases hq:q>0
   ·rw [if_pos hq] at er
    have d1:=rev_last (by omega) h l
    have lq:=l.1
    have d2:NC lt (kas_rev p (n - (q+1)) n) (n+1):=by
     refine jM O h1 d1 ?_
     rw [QU (by omega),gP (by omega),if_pos ⟨by omega,by omega⟩]
     exact O.tr _ (p.getD (n - 1) 0) _ hc2 (l.2 _ _ (by omega) (by omega) (by omega) (by omega))
    obtain ⟨a,b,c,d,e⟩:=tI O f (kas_rev p (n - (q+1)) n) (n+1) 0 (by omega) (by rw [vD]; omega) d2 (one _) r er
    exact ⟨a.trans (fX _ _ _),by omega,by omega,d,e⟩
   ·rw [if_neg hq] at er
    obtain ⟨a,b,c,d,e⟩:=tI O f p (n+1) 0 (by omega) (by omega) (jM O h1 h hc2) (one _) r er
    exact ⟨a,by omega,by omega,d,e⟩
  | false =>
   rw [hc,if_neg Bool.false_ne_true] at er
   have er:r=told lt (if lt (p.getD (n - 1) 0) (p.getD n 0)=true then KasT.ret (p,n,q) else kas_desc f p (n+1) (q+1)):=er
   cases hd:lt (p.getD (n - 1) 0) (p.getD n 0) with
   | true =>
    rw [hd,if_pos rfl] at er
    subst er
    exact ⟨Array.Perm.refl _,by show n<=n+(f+1); omega,Nat.le_refl _,h,l⟩
   | false =>
    rw [hd,if_neg Bool.false_ne_true] at er
    have lq:=l.1
    have l2:Last lt p (n+1) (q+1):=⟨by omega,fun i j a b c d=>by
     by_cases hi:i<n
     ·by_cases hj:j<n
      ·exact l.2 i j (by omega) hi (by omega) hj
      ·have:j=n:=by omega
       subst this
       exact O.tr _ (p.getD (j - 1) 0) _ hd (l.2 i (j - 1) (by omega) hi (by omega) (by omega))
     ·have:i=n:=by omega
      subst this
      by_cases hj:j<i
      ·exact O.tr _ (p.getD (i - 1) 0) _ (l.2 (i - 1) j (by omega) (by omega) (by omega) hj) hc
      ·have:j=i:=by omega
       subst this
       exact (one p).2 j j (by omega) (by omega) (by omega) (by omega)⟩
    obtain ⟨a,b,c,d,e⟩:=tI O f p (n+1) (q+1) (by omega) (by omega) (jM O h1 h hd) l2 r er
    exact ⟨a,by omega,by omega,d,e⟩
theorem yP {p q:Array Nat} (h:p.Perm q):p.size=q.size:=h.size_eq
theorem JM (O:sS lt) {n nrem:Nat} {p:Array Nat} (h1:1<=n) (hn:n<=nrem) (hs:nrem<=p.size) (h:NC lt p n) (r:Nat×Array Nat) (er:r=told lt (kas_tail3 n nrem p)):r.2.Perm p/\1<=r.1/\r.1<=nrem/\Up lt r.2 r.1:=by
 unfold kas_tail3 at er
 rw [iA] at er
 obtain ⟨a,b,c,_⟩:=GR O (kas_rev p 0 n) (nrem - n) n h1 (aAN (by omega) h)
 subst er
 exact ⟨fX _ _ _,Nat.le_trans h1 a,(by show told lt _<=nrem; omega),c⟩
theorem sC (O:sS lt) {n nrem:Nat} {p:Array Nat} (h1:1<=n) (hn:n+1<=nrem) (hs:nrem<=p.size) (h:NC lt p (n+1)) (r:Nat×Array Nat) (er:r=told lt (kas_descPart n nrem p)):r.2.Perm p/\1<=r.1/\r.1<=nrem/\Up lt r.2 r.1:=by
 unfold kas_descPart at er
 rw [iA] at er
 have one:Last lt p (n+1) 0:=⟨by omega,fun i j a b c d=>by
  have e1:i=n:=by omega
  have e2:j=n:=by omega
  rw [e1,e2]; exact O.R7 _⟩
 obtain ⟨a,b,c,d,e⟩:=tI O (nrem - (n+1)) p (n+1) 0 (by omega) (by omega) h one _ rfl
 generalize told lt (kas_desc (nrem - (n+1)) p (n+1) 0)=z at a b c d e er
 have hz:=yP a
 by_cases hq:z.2.2>0
 ·rw [if_pos hq] at er
  obtain ⟨a2,b2,c2,d2⟩:=JM O (n:=z.2.1) (nrem:=nrem) (p:=kas_rev z.1 (z.2.1 - (z.2.2+1)) z.2.1) (by omega) (by omega) (by rw [vD]; omega) (rev_last (by omega) d e) r er
  exact ⟨a2.trans ((fX _ _ _).trans a),b2,c2,d2⟩
 ·rw [if_neg hq] at er
  obtain ⟨a2,b2,c2,d2⟩:=JM O (n:=z.2.1) (nrem:=nrem) (p:=z.1) (by omega) (by omega) (by omega) d r er
  exact ⟨a2.trans a,b2,c2,d2⟩
theorem QV (O:sS lt) {n:Nat} {p:Array Nat} (h1:1<=n) (hs:n<=p.size) (r:Nat×Array Nat) (er:r=told lt (kas_count n p)):r.2.Perm p/\1<=r.1/\r.1<=n/\Up lt r.2 r.1:=by
 unfold kas_count at er
 rw [iA] at er
 obtain ⟨a,b,c,d⟩:=GR O p (n - 1) 1 (Nat.le_refl _) (fun i j hij hj=>by omega)
 generalize told lt (kas_asc p (n - 1) 1)=m at a b c d er
 by_cases hm:(m == n)=true
 ·rw [if_pos hm] at er
  subst er
  exact ⟨Array.Perm.refl _,a,by show m<=n; omega,c⟩
 ·rw [if_neg hm] at er
  have hm:m≠n:=fun e=>hm (by rw [e]; simp)
  have hlt:=d (by omega)
  by_cases h2:m>1
  ·rw [if_pos h2] at er
   have er:r=told lt (if lt (p.getD 0 0) (p.getD (m - 1) 0)=true then KasT.ret (m,p) else kas_descPart m n (kas_rev p 0 m)):=er
   cases hc:lt (p.getD 0 0) (p.getD (m - 1) 0) with
   | true =>
    rw [hc,if_pos rfl] at er
    subst er
    exact ⟨Array.Perm.refl _,a,by show m<=n; omega,c⟩
   | false =>
    rw [hc,if_neg Bool.false_ne_true] at er
    have all:∀ i j,i<m->j<m->lt (p.getD i 0) (p.getD j 0)=false:=fun i j hi hj=>by
     have i0:∀ i,i<m->lt (p.getD 0 0) (p.getD i 0)=false:=fun i hi=>by
      by_cases he:i=m - 1
      ·subst he; exact hc
      ·exact O.tr _ _ _ (c i (m - 1) (by omega) (by omega)) hc
     have R7:∀ x,lt x x=false:=fun x=>by
      cases hb:lt x x with
      | false=>rfl
      | true=>have:=O.as _ _ hb; rw [hb] at this; exact this
     have z0:lt (p.getD i 0) (p.getD 0 0)=false:=by
      by_cases hi0:i=0
      ·subst hi0; exact R7 _
      ·-- a later one is not less than the first one
       exact c 0 i (by omega) hi
     exact O.tr _ _ _ (i0 j hj) z0
    have dn:NC lt (kas_rev p 0 m) (m+1):=by
     refine jM O a (fun i j hij hj=>?_) ?_
     ·rw [gP (by omega),gP (by omega),if_pos ⟨by omega,by omega⟩,if_pos ⟨by omega,by omega⟩]
      exact all _ _ (by omega) (by omega)
     ·rw [gP (by omega),gP (by omega),if_pos ⟨by omega,by omega⟩,if_neg (by omega)]
      exact O.tr _ (p.getD (m - 1) 0) _ (O.as _ _ hlt) (all _ _ (by omega) (by omega))
    obtain ⟨a2,b2,c2,d2⟩:=sC O a (by omega) (by rw [vD]; exact hs) dn r er
    exact ⟨a2.trans (fX _ _ _),b2,c2,d2⟩
  ·rw [if_neg h2] at er
   have:m=1:=by omega
   subst this
   have dn:NC lt p (1+1):=jM O (Nat.le_refl _) (fun i j hij hj=>by omega) (O.as _ _ hlt)
   exact sC O (Nat.le_refl _) (by omega) hs dn r er
theorem vE (O:sS lt) (p:Array Nat) (k:Nat):∀ f l r,l<=r->r<=k->r - l<=f->Up lt p k->(∀ i,i<l->lt (p.getD k 0) (p.getD i 0)=false)->(∀ i,r<=i->i<k->lt (p.getD i 0) (p.getD k 0)=false) ->
  told lt (kas_place p k f l r)<=k/\(∀ i,i<told lt (kas_place p k f l r)->lt (p.getD k 0) (p.getD i 0)=false) /\ ∀ i,told lt (kas_place p k f l r)<=i->i<k->lt (p.getD i 0) (p.getD k 0)=false
 | 0,l,r,hlr,hr,hf,_,h1,h2=>by
  have:l=r:=by omega
  subst this
  exact ⟨hr,h1,h2⟩
 | f+1,l,r,hlr,hr,hf,hu,h1,h2=>by
  unfold kas_place
  by_cases hge:l >= r
  ·rw [if_pos hge]
   have:l=r:=by omega
   subst this
   exact ⟨hr,h1,h2⟩
  ·rw [if_neg hge]
   show told lt (if lt (p.getD k 0) (p.getD ((l+r) / 2) 0)=true then kas_place p k f l ((l+r) / 2) else kas_place p k f ((l+r) / 2+1) r)<=k/\(∀ i,i<told lt (if lt (p.getD k 0) (p.getD ((l+r) / 2) 0)=true then kas_place p k f l ((l+r) / 2) else kas_place p k f ((l+r) / 2+1) r)->lt (p.getD k 0) (p.getD i 0)=false) /\ ∀ i,told lt (if lt (p.getD k 0) (p.getD ((l+r) / 2) 0)=true then kas_place p k f l ((l+r) / 2) else kas_place p k f ((l+r) / 2+1) r)<=i->i<k->lt (p.getD i 0) (p.getD k 0)=false
   cases hc:lt (p.getD k 0) (p.getD ((l+r) / 2) 0) with
   | true =>
    rw [if_pos rfl]
    refine vE O p k f l ((l+r) / 2) (by omega) (by omega) (by omega) hu h1 fun i hi hik=>?_
    by_cases he:i=(l+r) / 2
    ·subst he; exact O.as _ _ hc
    ·exact O.tr _ _ _ (O.as _ _ hc) (hu _ i (by omega) hik)
   | false =>
    rw [if_neg Bool.false_ne_true]
    refine vE O p k f ((l+r) / 2+1) r (by omega) hr (by omega) hu (fun i hi=>?_) h2
    by_cases he:i=(l+r) / 2
    ·subst he; exact hc
    ·exact O.tr _ _ _ (hu i ((l+r) / 2) (by omega) (by omega)) hc
theorem JN {p:Array Nat} {k l:Nat} (hk:k<p.size) (hl:l<=k) (i:Nat):(bubble p k (k - l)).getD i 0=if i=l then p.getD k 0 else if l<i/\i<=k then p.getD (i - 1) 0 else p.getD i 0:=by
 rw [h8,getElem?_bubble hk _ (by omega),show k - (k - l)=l by omega]
 by_cases h1:i=l
 ·rw [if_pos h1,if_pos h1,h8]
 ·rw [if_neg h1,if_neg h1]
  by_cases h2:l<i/\i<=k
  ·rw [if_pos h2,if_pos h2,h8]
  ·rw [if_neg h2,if_neg h2,h8]
theorem QW (O:sS lt):∀ f (p:Array Nat) k,k+f<=p.size->Up lt p k->(told lt (kas_bin f p k)).Perm p/\Up lt (told lt (kas_bin f p k)) (k+f)
 | 0,p,k,_,h=>⟨Array.Perm.refl _,h⟩
 | f+1,p,k,hs,h=>by
  unfold kas_bin
  rw [iA]
  obtain ⟨a,b,c⟩:=vE O p k k 0 k (by omega) (Nat.le_refl _) (by omega) h (fun i hi=>by omega) (fun i hi hik=>by omega)
  generalize told lt (kas_place p k k 0 k)=l at a b c
  have hk:k<p.size:=by omega
  have h2:Up lt (bubble p k (k - l)) (k+1):=fun i j hij hj=>by
   rw [JN hk a,JN hk a]
   by_cases hjl:j=l
   ·rw [if_pos hjl,if_neg (by omega),if_neg (by omega)]; exact b i (by omega)
   ·rw [if_neg hjl]
    by_cases hj2:l<j/\j<=k
    ·rw [if_pos hj2]
     by_cases hil:i=l
     ·rw [if_pos hil]; exact c (j - 1) (by omega) (by omega)
     ·rw [if_neg hil]
      by_cases hi2:l<i/\i<=k
      ·rw [if_pos hi2]; exact h _ _ (by omega) (by omega)
      ·rw [if_neg hi2]; exact h _ _ (by omega) (by omega)
    ·rw [if_neg hj2,if_neg (by omega),if_neg (by omega)]; exact h _ _ hij (by omega)
  obtain ⟨e,g⟩:=QW O f (bubble p k (k - l)) (k+1) (by rw [bubble_size]; omega) h2
  exact ⟨e.trans (bubble_perm _ _ _),by rw [show k+(f+1)=k+1+f by omega]; exact g⟩
theorem VJ (O:sS lt) {n:Nat} (h1:1<=n):(told lt (kas_sort n)).Perm (List.toArray (List.range n))/\Up lt (told lt (kas_sort n)) n:=by
 unfold kas_sort
 rw [iA]
 obtain ⟨a,b,c,d⟩:=QV O (n:=n) (p:=List.toArray (List.range n)) h1 (by simp) _ rfl
 generalize told lt (kas_count n (List.toArray (List.range n)))=r at a b c d
 have hs:r.2.size=n:=by rw [yP a]; simp
 by_cases hr:r.1<n
 ·rw [if_pos hr,show max r.1 1=r.1 by omega]
  obtain ⟨e,g⟩:=QW O (n - r.1) r.2 r.1 (by omega) d
  exact ⟨e.trans a,by rw [show r.1+(n - r.1)=n by omega] at g; exact g⟩
 ·rw [if_neg hr]
  have:r.1=n:=by omega
  exact ⟨a,by rw [<- this]; exact d⟩
end
end L4
end
section
namespace L4
open PySem PySem.Spec PyProof.Rows L2 L3 PySem.W Att
section
variable {prog:Program} {w:World} {A:Around} {s:Shared} {Q:Bool->Shared->Prop}
theorem aAO:∀ (us:List Value) (vs:List Value) (as bs:List Int) (i:Nat) (fin:Bool),(fin=decide (us.length<vs.length))->IntsAre us as->IntsAre vs bs->Q (gT as bs) s->KatLex prog w A true fin Q (us.zip vs) i s:=by
 intro us
 induction us with
 | nil =>
  intro vs as bs i fin hf ha hb q
  cases ha
  cases hb with
  | nil=>subst hf; exact q
  | cons b t' hb=>subst hf; simpa [KatLex,gT] using q
 | cons u us ih =>
  intro vs as bs i fin hf ha hb q
  cases ha with
  | cons a t ha =>
   cases hb with
   | nil=>subst hf; simpa [KatLex,gT] using q
   | cons b t' hb =>
    rename_i as vs bs
    refine kat_cons (wpAny_eqBool_int (kat_go (fun e=>?_) (fun e=>?_)))
    ·have e:a=b:=by simpa using e
     refine kat_yes (ih _ _ _ (i+1) fin (by rw [hf]; simp) ha hb ?_)
     simpa [gT,e] using q
    ·have e:a≠b:=by simpa using e
     have q:Q (decide (a<b)) s:=by simpa [gT,e] using q
     refine kat_no ?_
     cases hc:(true&&i == 0) with
     | true=>exact oneLt_int q
     | false=>exact kat_one _ _ (lt_int q)
end
noncomputable def JO (n:Nat) {α:Type}:KasT α->(α->Prop)->Prop
 | .ret a,Q=>Q a
 | .ask i j k,Q=>i<n/\j<n /\ ∀ b,JO n (k b) Q
theorem jN {n:Nat} {α β:Type} {f:α->KasT β} {Q:β->Prop}:∀ (t:KasT α),JO n t (fun a=>JO n (f a) Q)->JO n (t.bind f) Q
 | .ret a,h=>h
 | .ask i j k,h=>⟨h.1,h.2.1,fun b=>jN (k b) (h.2.2 b)⟩
noncomputable def Rg (n:Nat) (p:Array Nat):Prop:=p.Perm (List.toArray (List.range n))
theorem Rg.lt {n:Nat} {p:Array Nat} (h:Rg n p) (h1:1<=n) (k:Nat):p.getD k 0<n:=by
 rw [h8]
 cases q:p[k]? with
 | none=>exact h1
 | some x =>
  have:x∈p:=Array.mem_of_getElem? q
  have:=h.mem_iff.mp this
  simpa using this
section
variable {n:Nat}
theorem BA {p:Array Nat} (h1:1<=n) (h:Rg n p) {Q:Nat->Prop} (q:∀ m,Q m):∀ f m,JO n (kas_asc p f m) Q
 | 0,m=>q m
 | f+1,m=>⟨h.lt h1 _,h.lt h1 _,fun b=>by
  cases b with
  | true=>exact q m
  | false=>exact BA h1 h q f (m+1)⟩
theorem oZ (h1:1<=n) {Q:Array Nat×Nat×Nat->Prop} (q:∀ r,Rg n r.1->Q r):∀ f p m k,Rg n p->JO n (kas_desc f p m k) Q
 | 0,p,m,k,h=>q _ h
 | f+1,p,m,k,h=>⟨h.lt h1 _,h.lt h1 _,fun b=>by
  cases b with
  | true =>
   show JO n (if k>0 then _ else _) Q
   by_cases hk:k>0
   ·rw [if_pos hk]; exact oZ h1 q f _ _ _ ((fX _ _ _).trans h)
   ·rw [if_neg hk]; exact oZ h1 q f _ _ _ h
  | false=>exact ⟨h.lt h1 _,h.lt h1 _,fun d=>by
    cases d with
    | true=>exact q _ h
    | false=>exact oZ h1 q f _ _ _ h⟩⟩
theorem DF (h1:1<=n) {Q:Nat×Array Nat->Prop} (q:∀ r,Rg n r.2->Q r) {m k:Nat} {p:Array Nat} (h:Rg n p):JO n (kas_tail3 m k p) Q :=
 jN _ (BA h1 ((fX _ _ _).trans h) (fun m'=>q (m',kas_rev p 0 m) ((fX _ _ _).trans h)) _ _)
theorem pA (h1:1<=n) {Q:Nat×Array Nat->Prop} (q:∀ r,Rg n r.2->Q r) {m k:Nat} {p:Array Nat} (h:Rg n p):JO n (kas_descPart m k p) Q :=
 jN _ (oZ h1 (fun r hr=>by
  by_cases hk:r.2.2>0
  ·rw [if_pos hk]; exact DF h1 q ((fX _ _ _).trans hr)
  ·rw [if_neg hk]; exact DF h1 q hr) _ _ _ _ h)
theorem MB (h1:1<=n) {Q:Nat×Array Nat->Prop} (q:∀ r,Rg n r.2->Q r) {k:Nat} {p:Array Nat} (h:Rg n p):JO n (kas_count k p) Q :=
 jN _ (BA h1 h (fun m=>by
  by_cases e:(m == k)=true
  ·rw [if_pos e]; exact q _ h
  ·rw [if_neg e]
   by_cases e2:m>1
   ·rw [if_pos e2]
    exact ⟨h.lt h1 _,h.lt h1 _,fun c=>by
     cases c with
     | true=>exact q _ h
     | false=>exact pA h1 q ((fX _ _ _).trans h)⟩
   ·rw [if_neg e2]; exact pA h1 q h) _ _)
theorem qQ (h1:1<=n) {p:Array Nat} (h:Rg n p) {Q:Nat->Prop} (q:∀ m,Q m) (k:Nat):∀ f l r,JO n (kas_place p k f l r) Q
 | 0,l,r=>q l
 | f+1,l,r=>by
  unfold kas_place
  by_cases e:l >= r
  ·rw [if_pos e]; exact q l
  ·rw [if_neg e]
   exact ⟨h.lt h1 _,h.lt h1 _,fun c=>by
    cases c with
    | true=>exact qQ h1 h q k f _ _
    | false=>exact qQ h1 h q k f _ _⟩
theorem JP (h1:1<=n) {Q:Array Nat->Prop} (q:∀ p,Q p):∀ f p k,Rg n p->JO n (kas_bin f p k) Q
 | 0,p,k,h=>q p
 | f+1,p,k,h=>jN _ (qQ h1 h (fun l=>JP h1 q f _ _ ((bubble_perm _ _ _).trans h)) k _ _ _)
theorem QX (h1:1<=n) {Q:Array Nat->Prop} (q:∀ p,Q p):JO n (kas_sort n) Q :=
 jN _ (MB h1 (fun r hr=>by
  by_cases e:r.1<n
  ·rw [if_pos e]; exact JP h1 q _ _ _ hr
  ·rw [if_neg e]; exact q _) (Array.Perm.refl _))
end
section
variable {X:Cx}
noncomputable def jO (ts:List (List Int)) (i:Nat):List Int:=(ts[i]?).getD []
theorem JQ {prog:Program} {w:World} {A:Around} {κ:SortKind} {vs:List Value} {lt:Nat->Nat->Bool} {s:Shared} {n:Nat} (h:∀ i j (C:Bool->Shared->Prop),i<n->j<n->C (lt i j) s->kas_ask prog w A κ vs i j C s) {α:Type}:∀ (t:KasT α) (Q:α->Shared->Prop),JO n t (fun _=>True)->Q (told lt t) s->t.kasWp (kas_ask prog w A κ vs) Q s
 | .ret a,Q,_,q=>q
 | .ask i j k,Q,sf,q=>h i j _ sf.1 sf.2.1 (JQ h (k (lt i j)) Q (sf.2.2 _) q)
noncomputable def GS (K:PySem.W.Frag):List V->Hp->VK->Prop:=fun xs H Q=>∃ (a:Addr) (ps:List Addr) (ts:List (List Int)),xs=[.ref a]/\H a=some (.lst (ps.map V.ref))/\ps.length=ts.length/\2<=ts.length/\ts.length<64 /\
 (∀ (j:Nat) (p:Addr) (t:List Int),ps[j]? = some p->ts[j]? = some t->fU K H p (t.map V.int)/\t≠[]) /\
 ∀ ix:List Nat,ix.Perm (List.range ts.length)->(∀ i j:Nat,i<j->j<ts.length->gT (jO ts (ix.getD j 0)) (jO ts (ix.getD i 0))=false) -> ∀ q,H q=none->Q (.ref q) (upd H q (.lst (ix.map fun i=>V.ref (ps.getD i 0))))
theorem yQ:∀ {ps:List Addr} {us:List Value},Vals (ps.map V.ref) us->us=ps.map Value.ref
 | [],_,.nil=>rfl
 | p::ps,_,.cons r t=>by rw [yQ t]; rw [show _=Value.ref p from r]; rfl
theorem dA.live {P:Program} {w:World} {H:Hp} {h:Heap} {a:Addr} {o:HO} (x:L2.dA P w H h a o):∃ u,h.get? a=some u:=by
 cases o with
 | lst xs=>obtain ⟨_,_,_,_,e⟩:=x; exact ⟨_,e⟩
 | tup xs=>obtain ⟨_,_,_,⟨_,e,_⟩,_⟩:=x; exact ⟨_,e⟩
 | dK kvs=>obtain ⟨_,_,_,_,o,_,_,e,_⟩:=x; exact ⟨_,e⟩
 | dT kvs=>obtain ⟨_,_,_,_,o,_,_,e,_⟩:=x; exact ⟨_,e⟩
 | dX ob kvs=>obtain ⟨_,_,e,_⟩:=x; exact ⟨_,e⟩
 | set S n=>obtain ⟨o,_,_,_,e,_⟩:=x; exact ⟨_,e⟩
 | ins C dx fs=>obtain ⟨_,_,_,e,_⟩:=x; exact ⟨_,e⟩
 | own y=>obtain ⟨_,e⟩:=x; exact ⟨_,e⟩
 | xd fs=>obtain ⟨_,⟨_,_,_,e,_⟩,_⟩:=x; exact ⟨_,e⟩
 | rng lo hi=>obtain ⟨_,_,_,e⟩:=x; exact ⟨_,e⟩
 | uP ob u=>obtain ⟨e,_⟩:=x; exact ⟨_,e⟩
 | IJ q=>obtain ⟨_,e,_⟩:=x; exact ⟨_,e⟩
 | met f y=>exact ⟨_,(show h.get? a=some _ from x)⟩
 | ext φ=>obtain ⟨_,⟨_,e⟩,_⟩:=x; exact ⟨_,e⟩
theorem BB:fK X (.builtin "sorted") (GS X.K):=by
 intro pins s σ H xs us Q I r h
 obtain ⟨a,ps,ts,rfl,ha,hl,h2,h64,ht,q⟩:=h
 obtain ⟨u,rfl,ru⟩:=vals1 r
 cases ru
 obtain ⟨its,rv,pl,hz⟩:=I.list (fS.of ha)
 have aIH:=yQ rv
 subst aIH
 obtain ⟨m,hns,_⟩:=id I.loc
 have hL:=I.lt
 have hn:(ps.map Value.ref).length=ts.length:=by rw [List.length_map]; exact hl
 have tup:∀ (j:Nat),j<ts.length -> ∃ (p:Addr) (us:List Value),ps[j]? = some p/\IsTup s.heap p us.toArray/\IntsAre us (jO ts j)/\jO ts j≠[]/\(ps.map Value.ref).getD j Value.none=.ref p:=fun j hj=>by
  obtain ⟨q1,q2⟩:=ht j ps[j] ts[j] (by simp [hl,hj]) (by simp [hj])
  obtain ⟨us,ru,pt,_⟩:=I.tuple q1
  refine ⟨ps[j],us,by simp [hl,hj],pt,?_,?_,by simp [hl,hj]⟩
  ·unfold jO; rw [List.getElem?_eq_getElem hj]; exact intsAre_of ru
  ·unfold jO; rw [List.getElem?_eq_getElem hj]; exact q2
 refine kat_sorted (h₀:=uU s.heap) (L:=X.env.locals) (m:=m) (news:=ledger s.heap X.env.locals s.heap.objs.size) (vs:=ps.map Value.ref) (O7 hns) (fun p hp=>?_) pl.isList (by omega) (by omega) fun D e1 h' F' N' hD=>?_
 ·obtain ⟨x,o⟩:=p
  obtain ⟨n1,_,e⟩:=gD.mp hp
  exact ⟨e,n1,nK _ _⟩
 have keep':∀ b o,b≠X.env.locals->s.heap.get? b=some o->h'.get? b=some o:=fun b o hb e =>
  (N' (b,o) (List.mem_cons_of_mem _ (gD.mpr ⟨hb,Nat.ne_of_lt (Heap.lt_size e),e⟩))).1
 have QY:∀ {p:Addr} {us:Array Value},IsTup s.heap p us->p≠X.env.locals:=fun {p us} ⟨o,e,c,n,d⟩ z=>by
  subst z
  obtain ⟨o2,es,ep,e2,d2,_⟩:=hns
  rw [e] at e2
  cases e2
  rw [d] at d2
  cases d2
 -- the kind: tuples that begin with ints
 have kt:∀ (ps':List Addr) (fs:List Value),ps'.length=fs.length->(∀ (j:Nat) (p:Addr) (f:Value),ps'[j]? = some p->fs[j]? = some f -> ∃ us:Array Value,IsTup h' p us/\us[0]? = some f)->KatTups h' (ps'.map Value.ref) fs:=by
  intro ps'
  induction ps' with
  | nil=>intro fs hf _; cases fs; exact trivial; simp at hf
  | cons p ps' ih =>
   intro fs hf h
   cases fs with
   | nil=>simp at hf
   | cons f fs =>
    obtain ⟨us,⟨o,e,c,n,d⟩,u0⟩:=h 0 p f rfl rfl
    exact KatTups.cons e c d u0 (ih fs (by simpa using hf) fun j p' f' h1 h2=>h (j+1) p' f' (by simpa using h1) (by simpa using h2))
 have heads:∃ fs:List Value,fs.length=ps.length/\(∀ v∈fs,∃ i t,v=Value.int i t) /\ ∀ (j:Nat) (p:Addr) (f:Value),ps[j]? = some p->fs[j]? = some f -> ∃ us:Array Value,IsTup h' p us/\us[0]? = some f:=by
  have:∀ k,k<=ps.length -> ∃ fs:List Value,fs.length=k/\(∀ v∈fs,∃ i t,v=Value.int i t) /\ ∀ (j:Nat) (p:Addr) (f:Value),ps[j]? = some p->fs[j]? = some f -> ∃ us:Array Value,IsTup h' p us/\us[0]? = some f:=by
   intro k
   induction k with
   | zero=>intro _; exact ⟨[],rfl,fun v hv=>(nomatch hv),fun j p f _ e=>by simp at e⟩
   | succ k ih =>
    intro hk
    obtain ⟨fs,f1,f2,f3⟩:=ih (by omega)
    obtain ⟨p,us,hp,pt,hi,ne,_⟩:=tup k (by omega)
    obtain ⟨i,t,us',rfl⟩:∃ i t us',us=Value.int i t::us':=by
     generalize jO ts k=w at hi ne
     cases hi with
     | nil=>exact absurd rfl ne
     | cons n t r=>exact ⟨n,t,_,rfl⟩
    refine ⟨fs++[Value.int i t],by simp [f1],fun v hv=>?_,fun j p' f' h1 h2=>?_⟩
    ·rcases List.mem_append.mp hv with h | h
     ·exact f2 v h
     ·exact ⟨i,t,List.mem_singleton.mp h⟩
    ·by_cases hj:j<k
     ·rw [List.getElem?_append_left (by omega)] at h2; exact f3 j p' f' h1 h2
     ·have:j=k:=by
       have:=(List.getElem?_eq_some_iff.mp h2).1
       simp [f1] at this
       omega
      subst this
      rw [List.getElem?_append_right (by omega),f1,Nat.sub_self] at h2
      rw [hp] at h1
      cases h1
      have h2:Value.int i t=f':=by simpa using h2
      subst h2
      obtain ⟨o,e,c⟩:=id pt
      exact ⟨_,⟨o,keep' p o (QY pt) e,c⟩,by simp⟩
  exact this ps.length (Nat.le_refl _)
 obtain ⟨fs,f1,f2,f3⟩:=heads
 refine kat_kind (T:=.type "int") (kt ps fs f1.symm f3) (by omega) (fun v hv=>?_) (by decide) ?_
 ·obtain ⟨i,t,rfl⟩:=f2 v hv
  exact Looks.of_pure rfl
 have O:sS fun i j=>gT (jO ts i) (jO ts j):=⟨fun x y a=>EN _ _ a,fun x y z a b=>EO _ _ _ a b⟩
 rw [hn]
 refine JQ (n:=ts.length) (lt:=fun i j=>gT (jO ts i) (jO ts j)) (fun i j C hi hj hC=>?_) _ _ (QX (by omega) fun _=>trivial) ?_
 ·obtain ⟨p,us,hp,pt,hi',_,ep⟩:=tup i hi
  obtain ⟨p2,us2,hp2,pt2,hi2,_,ep2⟩:=tup j hj
  unfold kas_ask
  rw [ep,ep2,show (Value.type "int" != Value.type "tuple")=true from by decide]
  obtain ⟨o,e,c,n,d⟩:=id pt
  obtain ⟨o2,e2,c2,n2,d2⟩:=id pt2
  exact kat_lt (s:={ s with heap:=h' }) (keep' p o (QY pt) e) d (keep' p2 o2 (QY pt2) e2) d2 (aAO us us2 _ _ 0 _ rfl hi' hi2 hC)
 obtain ⟨sp,su⟩:=VJ O (n:=ts.length) (by omega)
 generalize told (fun i j=>gT (jO ts i) (jO ts j)) (kas_sort ts.length)=pp at sp su
 refine KasFin.intro F' N' (UpdF.head fun p hp z=>Nat.lt_irrefl _ (z▸hD p hp)) fun h'' c F'' N''=>?_
 have nD:D≠X.env.locals:=(N' _ (List.mem_cons_self ..)).2.1
 have dead:s.heap.get? D=none:=by
  cases e:s.heap.get? D with
  | none=>rfl
  | some o=>exact absurd (hD (D,o) (gD.mpr ⟨nD,Nat.ne_of_lt (Heap.lt_size e),e⟩)) (Nat.lt_irrefl _)
 have pB:∀ b o,b≠X.env.locals->s.heap.get? b=some o->h''.get? b=some o:=fun b o hb e =>
  (N'' (b,o) (List.mem_cons_of_mem _ (gD.mpr ⟨hb,Nat.ne_of_lt (Heap.lt_size e),e⟩))).1
 have hDo:=(N'' (D,_) (List.mem_cons_self ..)).1
 have hfr:H D=none:=by
  cases e:H D with
  | none=>rfl
  | some u =>
   obtain ⟨o,eo⟩:=dA.live (I.hok D u e)
   rw [dead] at eo
   cases eo
 have neD:∀ {b:Addr} {o:Obj},s.heap.get? b=some o->b≠D:=fun {b o} e z=>by rw [z,dead] at e; cases e
 have MC:∀ {b:Addr} {u:HO},H b=some u->b≠D:=fun {b u} e z=>by rw [z,hfr] at e; cases e
 have hlp:pp.toList.Perm (List.range ts.length):=by simpa using sp.toList
 refine ⟨.ref D,upd H D (.lst (pp.toList.map fun i=>V.ref (ps.getD i 0))),?_,rfl,q pp.toList hlp (fun i j hij hj=>?_) D hfr⟩
 ·show L2.Inv X pins σ _ { s with heap:=h'' }
  refine I.step (s:=s) (h':=h'') (g':=s.gens) (t':=s.toks) (d':=s.drawn) (ch:=[]) (fun b hb=>nomatch hb) (fun b o hb _ _ e _=>pB b o hb e) (fun b o hb _ _ e _=>⟨o.slots,pB b o hb e⟩) (fun b o _ e n=>by rw [aO (neD e)]; exact n) (fun b o _ e=>?_)
   (fun b xs e=>by rw [aO (MC e)]; exact e) (fun b o u e=>by rw [aO (MC e)]; exact e) (fun b ps e=>by rw [aO (MC e),e]) (fun m2 hm2=>?_) ?_ I.bare
  ·by_cases hb:b=X.env.locals
   ·subst hb
    obtain ⟨o2,_,_,e2,_⟩:=F''.ns
    exact ⟨o2,e2⟩
   ·exact ⟨o,pB b o hb e⟩
  ·have:m2=m:=by
    obtain ⟨oa,ea,pa,h1,h2,_,h3⟩:=hm2
    obtain ⟨ob,eb,pb,k1,k2,_,k3⟩:=hns
    rw [h1] at k1
    cases k1
    rw [h2] at k2
    cases k2
    funext x
    rw [<- h3,<- k3]
   subst this
   exact F''.ns
  ·intro b u e
   by_cases hb:b=D
   ·subst hb
    rw [aS] at e
    cases e
    refine ⟨?_,pp.toList.map fun i=>Value.ref (ps.getD i 0),c,?_,hDo.trans ?_⟩
    ·rw [List.length_map,hlp.length_eq,List.length_range,sizeLine_eq]; omega
    ·have:∀ l:List Nat,Vals (l.map fun i=>V.ref (ps.getD i 0)) (l.map fun i=>Value.ref (ps.getD i 0)):=fun l=>by
      induction l with
      | nil=>exact .nil
      | cons a l ih=>exact .cons rfl ih
     exact this _
    ·have:(pp.toList.map fun i=>(ps.map Value.ref).getD i Value.none)=pp.toList.map fun i=>Value.ref (ps.getD i 0):=List.map_congr_left fun i hi=>by
      have:i<ts.length:=by simpa using hlp.mem_iff.mp hi
      simp [hl,this]
     rw [this]
   ·rw [aO hb] at e
    refine (I.hok b u e).stay (fun c v hc ev=>pB c v (fun z=>?_) ev) (fun c ec=>by rw [aO (MC ec)]; exact ec) (fun c ys ec=>by rw [aO (MC ec)]; exact ec) fun c o u ec=>by rw [aO (MC ec)]; exact ec
    subst z
    rcases hc with hc | hc
    ·rw [<- hc,I.free] at e; cases e
    ·rw [I.free] at hc; cases hc
 ·have:=su i j hij hj
  rw [h8,h8] at this
  simpa using this
theorem QZ {prog:Program} {w:World} {A:Around} {E:Value->Shared->Prop} {s:Shared} {a:Addr} {v:Value} {n:Nat} {P:PySem.Fin->Shared->Prop} (ho:s.heap.get? a=some (seqObj "list" #[v] n))
  (h:P (.done (.ret .none)) { s with heap:=sortedHeap s.heap a [v] #[v] }):wpAny (model prog w) A (Builtin.«list.sort» ⟨[.ref a],[]⟩) P E s:=by
 rw [list_sort_plain]
 have hlt:=Heap.lt_size ho
 refine wpAny_bind (listItems_at ho rfl (wpAny_bind (listUpdate_at ho rfl ?_)))
 have ho1:=get?_update_seq ho (fun _=>(#[]:Array Value))
 refine wpAny_bind (seqEpoch_at ho1 rfl (wpAny_bind (wpAny_newTuple (wpAny_bind (wpAny_newList (wpAny_holding ?_))))))
 have ho2:(((s.heap.update a (Obj.mapSeq fun _=>(#[]:Array Value))).push (seqObj "tuple" #[v] 0)).push (seqObj "list" #[] 0)).get? a=_:=Heap.get?_push_of_some _ (Heap.get?_push_of_some _ ho1)
 show wpAny (model prog w) A _ P E { s with heap:=((s.heap.update a (Obj.mapSeq fun _=>(#[]:Array Value))).push (seqObj "tuple" #[v] 0)).push (seqObj "list" #[] 0) }
 dsimp only
 rw [if_pos (show (#[v]:Array Value).size<2 from Nat.lt_succ_self 1),if_pos (show (#[v]:Array Value).size<2 from Nat.lt_succ_self 1)]
 refine wpAny_bind (wpAny_pure ?_)
 rw [StateT.run_pure]
 refine wpAny_bind (wpAny_pure (wpAny_bind (seqEpoch_at ho2 rfl (wpAny_bind (listUpdate_at ho2 rfl ?_ (hsz2:=?_))))))
 ·simp only [bne_self_eq_false,Bool.false_eq_true,if_false]
  have e:(arrOf (SortSt.mk' general' ((#[v]:Array Value).zip #[v]) #[] 7 none)).map (·.2)=#[v]:=by
   show ((#[v]:Array Value).zip #[v]).map (·.2)=#[v]
   simp
  rw [e]
  exact wpAny_pure h
 ·show (((#[v]:Array Value).zip #[v]).map (·.2)).size<=sizeLine+1
  simp
noncomputable def GU:List V->Hp->VK->Prop:=fun xs H Q=>∃ (a:Addr) (x:V),xs=[.ref a]/\H a=some (.lst [x]) /\ ∀ q,H q=none->Q (.ref q) (upd H q (.lst [x]))
theorem BC:fK X (.builtin "sorted") GU:=by
 intro pins s σ H xs us Q I r h
 obtain ⟨a,x,rfl,ha,q⟩:=h
 obtain ⟨u,rfl,ru⟩:=vals1 r
 cases ru
 obtain ⟨its,rv,pl,hz⟩:=I.list (fS.of ha)
 obtain ⟨v,rfl,rx⟩:=vals1 rv
 refine Calls.call_function_entry kind_sorted plain_sorted entry_sorted (args_sorted1 (.ref a)) (show wpAny _ _ (Builtin.«sorted» _) _ _ _ from ?_)
 unfold Builtin.«sorted»
 refine wpAny_bind (m:=checkCount "sorted" 1 1 _) (wpAny_pure (wpAny_bind (collect_list pl.isList (wpAny_bind (wpAny_newList ?_)))))
 have hsz:((s.heap.push (seqObj "list" #[] 0)).update s.heap.objs.size (Obj.mapSeq (· ++ [v].toArray))).objs.size=s.heap.objs.size+1:=by rw [Heap.size_update,size_push']
 have hoL:(((s.heap.push (seqObj "list" #[] 0)).update s.heap.objs.size (Obj.mapSeq (· ++ [v].toArray))).push (seqObj "list" [v].toArray 0)).get? (s.heap.objs.size+1)=some (seqObj "list" #[v] 0):=by
  rw [<- hsz]
  exact Heap.get?_push_size _ rfl
 show wpAny _ _ _ _ _ { s with heap:=((s.heap.push (seqObj "list" #[] 0)).update s.heap.objs.size (Obj.mapSeq (· ++ [v].toArray))).push (seqObj "list" [v].toArray 0) }
 rw [hsz]
 refine wpAny_bind (wpAny_holding (wpAny_call_entry slot_list_sort ⟨_,hoL,rfl⟩ entry_list_sort (QZ hoL ⟨_,rfl,?_⟩) (args_list_sort _)))
 refine wpAny_pure ⟨.ref (s.heap.objs.size+1),rfl,?_⟩
 obtain ⟨e1,hat⟩:=sortedAll_at s.heap [v] #[v]
 have I1:L2.Inv X pins σ (upd H (s.heap.objs.size+1) (.lst [x])) { s with heap:=sortedAll s.heap [v] #[v] } :=
  I.laid (t':=s.toks) (fun b o e=>sortedAll_old e) (Nat.le_succ _) ⟨by rw [sizeLine_eq]; simp,[v],e1,.cons rx .nil,by simpa [seqObj] using hat⟩
 exact ⟨.ref _,_,I1,rfl,q _ (I.hok.fresh (Nat.le_succ _))⟩
end
end L4
end
section
namespace L4
open PySem PySem.Spec PyProof.Rows L2 L3
section
variable {X:Cx}
theorem BD:fK X (.builtin "sorted") (fun xs H Q=>JI xs H Q\/GU xs H Q\/GS X.K xs H Q):=by
 intro pins s σ H xs us Q I r h
 rcases h with h | h | h
 ·exact oV pins s σ H xs us Q I r h
 ·exact BC pins s σ H xs us Q I r h
 ·exact BB pins s σ H xs us Q I r h
noncomputable def Q0:F1
 | [.lst ds],Q=>∃ ts,mR ds=some ts/\ts.length<64/\(∀ t∈ts,t≠[])/\Q (.lst ((rJ ts).map nZ))
 | _,_=>False
theorem Q2 {d:D} {t:List Int} (h:V2 d=some t):d=nZ t:=by
 cases d<;>first | cases h; done | skip
 rename_i ds
 unfold nZ
 rw [<- ints_of h]
theorem yR:∀ {ds:List D} {ts:List (List Int)},mR ds=some ts->ds=ts.map nZ
 | [],ts,h=>by cases h; rfl
 | d::ds,ts,h=>by
  unfold mR at h
  obtain ⟨t,e1,h⟩:=bnd h
  obtain ⟨us,e2,rfl⟩:=xD h
  rw [List.map_cons,Q2 e1,yR e2]
theorem aAP {K:PySem.W.Frag} {S:Addr->Prop} {H:Hp} {t:List Int} {v:V} (h:Dn K S H (nZ t) v):∃ p,v=.ref p/\H p=some (.tup (t.map V.int)):=by
 unfold nZ at h
 simp only [Dn] at h
 obtain ⟨a,xs,rfl,hl,da⟩:=h
 rw [aR.ints.mp da] at hl
 exact ⟨a,rfl,hl⟩
theorem DG {K:PySem.W.Frag} {S:Addr->Prop} {H:Hp}:∀ {ts:List (List Int)} {ys:List V},aR K S H (ts.map nZ) ys -> ∃ ps:List Addr,ys=ps.map V.ref/\ps.length=ts.length /\ ∀ (j:Nat) (p:Addr) (t:List Int),ps[j]? = some p->ts[j]? = some t->H p=some (.tup (t.map V.int))
 | [],ys,h=>by
  simp only [List.map_nil,aR] at h
  exact ⟨[],h,rfl,fun j p t e=>by simp at e⟩
 | t::ts,ys,h=>by
  obtain ⟨v,r,rfl,h1,h2⟩:=aR.bR h
  obtain ⟨p,rfl,hp⟩:=aAP h1
  obtain ⟨ps,rfl,hl,hh⟩:=DG h2
  refine ⟨p::ps,rfl,by simp [hl],fun j q u e1 e2=>?_⟩
  cases j with
  | zero=>cases e1; cases e2; exact hp
  | succ j=>exact hh j q u (by simpa using e1) (by simpa using e2)
theorem Q4 (ts:List (List Int)):(List.range ts.length).map (jO ts)=ts:=by
 refine List.ext_getElem? fun i=>?_
 rw [List.getElem?_map]
 by_cases h:i<ts.length
 ·rw [List.getElem?_range h]; simp [jO,h]
 ·rw [List.getElem?_eq_none (by simpa using h),List.getElem?_eq_none (by simpa using h)]; rfl
theorem Q5 {K:PySem.W.Frag}:C3F K (fun xs H Q=>JI xs H Q\/GU xs H Q\/GS K xs H Q) Q0:=by
 intro S H xs ds Q3 Q fc hd hf k
 match ds,hf with
 | [.lst es],hf =>
  obtain ⟨v,r,rfl,h1,h2⟩:=hd.bR
  simp only [aR] at h2
  subst h2
  simp only [Dn] at h1
  obtain ⟨a,ys,rfl,ha,sa,da⟩:=h1
  obtain ⟨ts,e,h64,hne,q⟩:=hf
  rw [yR e] at da
  obtain ⟨ps,rfl,hl,hh⟩:=DG da
  have one:∀ (p:Addr) (t:List Int) (H':Hp) (S':Addr->Prop),Same H H'->H p=some (.tup (t.map V.int))->Dn K S' H' (nZ t) (.ref p):=fun p t H' S' sm hp=>by
   unfold nZ
   simp only [Dn]
   exact ⟨p,_,rfl,sm _ _ hp,aR.ints.mpr rfl⟩
  match ts,hl,hh,h64,hne,q with
  | [],hl,hh,h64,hne,q =>
   have:ps=[]:=List.length_eq_zero_iff.mp hl
   subst this
   refine .inl ⟨a,[],rfl,ha,by decide,fun ns' hp _ p hf=>?_⟩
   have:ns' = []:=List.perm_nil.mp hp
   subst this
   exact k p [] _ [] hf aS (aK hf) (by simp only [aR]) q
  | [t],hl,hh,h64,hne,q =>
   obtain ⟨p,rfl⟩:∃ p,ps=[p]:=by
    match ps,hl with
    | [p],_=>exact ⟨p,rfl⟩
   exact .inr (.inl ⟨a,.ref p,rfl,ha,fun l hf=>k l [.ref p] _ [nZ t] hf aS (aK hf) (aR.one (one p t _ _ (aK hf) (hh 0 p t rfl rfl))) q⟩)
  | t1::t2::ts,hl,hh,h64,hne,q =>
   generalize hT:t1::t2::ts=T at *
   refine .inr (.inr ⟨a,ps,T,rfl,ha,hl,by rw [<- hT]; simp,h64,fun j p t e1 e2=>⟨fU.of (hh j p t e1 e2),hne t (List.mem_of_getElem? e2)⟩,fun ix hp hu l hf=>?_⟩)
   have hlen:ix.length=T.length:=by rw [hp.length_eq,List.length_range]
   have es:rJ T=ix.map (jO T):=by
    refine HM ((jZ T).trans ?_) (BZ T) ?_
    ·have:=(hp.map (jO T)).symm
     rw [Q4] at this
     exact this
    ·rw [UpT,List.pairwise_map,List.pairwise_iff_getElem]
     intro i j hi hj hij
     have:=hu i j hij (by omega)
     simpa [hi,hj] using this
   have dn:∀ (H':Hp),Same H H' -> ∀ jx:List Nat,(∀ i∈jx,i<T.length)->aR K (fun x=>S x/\x≠l) H' (jx.map fun i=>nZ (jO T i)) (jx.map fun i=>V.ref (ps.getD i 0)):=by
    intro H' sm jx
    induction jx with
    | nil=>intro _; exact aR.nil
    | cons i jx ih =>
     intro hh2
     have hi:=hh2 i List.mem_cons_self
     refine aR.cons (one _ _ _ _ sm ?_) (ih fun x hx=>hh2 x (List.mem_cons_of_mem _ hx))
     exact hh i _ _ (by simp [hl,hi]) (by simp [jO,hi])
   refine k l _ _ (ix.map fun i=>nZ (jO T i)) hf aS (aK hf) (dn _ (aK hf) ix fun i hi=>by simpa using hp.mem_iff.mp hi) ?_
   rw [es,List.map_map] at q
   exact q
theorem DH:qP Q0 iK:=fun ds d Q e q=>by
 unfold iK at e
 split at e
 ·rename_i a
  obtain ⟨ts,e1,e⟩:=bnd e
  by_cases h:ts.length<64/\ts.all (fun t=>!t.isEmpty)=true
  ·rw [if_pos h] at e
   cases e
   refine ⟨ts,e1,h.1,fun t ht z=>?_,q⟩
   have:=List.all_eq_true.mp h.2 t ht
   rw [z] at this
   cases this
  ·rw [if_neg h] at e; cases e
 ·cases e
theorem DI {p pos:Pos} {e:Expr} {t:AF} (hm:X.mg "sorted" = none) (ha:xC X [e] t) (hg:Gl X "sorted" := by rfl) (he:starEach [e] X.env=(false,eval e X.env)::starEach [] X.env:=by rfl):j6 X (.Call (.Name "sorted" p) [e] [] pos) (bA iK t):=cF (JE BD Q5 PyProof.Rows.boot_sorted hg hm ha (by decide) (by decide) he (by rfl)) (A6 DH)
end
end L4
end
section
namespace L4
open PySem PySem.Spec PyProof.Rows L2 L3 PySem.SeqAt
section
variable {X:Cx} {pins:List (Addr×Obj)} {σ:L2.St} {H:Hp} {s:Shared} {S:Addr->Prop}
open Classical in
end
end L4
end
section
namespace L4
open PySem PySem.Spec PyProof.Rows L2 L3
section
variable {X:Cx}
end
end L4
end
section
namespace L5
open PySem PySem.Spec PyProof.Rows L2 L3 L4
theorem qR {P:Program} {w:World} {H:Hp} {h:Heap} {a:Addr} {o:HO} (x:dA P w H h a o):∃ u,h.get? a=some u:=by
 cases o with
 | lst xs=>obtain ⟨_,_,_,_,e⟩:=x; exact ⟨_,e⟩
 | tup xs=>obtain ⟨_,_,_,⟨u,e,_⟩,_⟩:=x; exact ⟨_,e⟩
 | dK kvs=>obtain ⟨_,_,_,_,o,_,_,e,_⟩:=x; exact ⟨_,e⟩
 | dT kvs=>obtain ⟨_,_,_,_,o,_,_,e,_⟩:=x; exact ⟨_,e⟩
 | dX ob kvs=>obtain ⟨_,_,e,_⟩:=x; exact ⟨_,e⟩
 | set S n=>obtain ⟨o,_,_,_,e,_⟩:=x; exact ⟨_,e⟩
 | ins C dx fs=>obtain ⟨_,_,_,e,_⟩:=x; exact ⟨_,e⟩
 | own y=>obtain ⟨_,e⟩:=x; exact ⟨_,e⟩
 | xd fs=>obtain ⟨_,⟨_,_,_,e,_⟩,_⟩:=x; exact ⟨_,e⟩
 | rng lo hi=>obtain ⟨_,_,_,e⟩:=x; exact ⟨_,e⟩
 | uP ob u=>obtain ⟨e,_⟩:=x; exact ⟨_,e⟩
 | IJ q=>obtain ⟨_,e,_⟩:=x; exact ⟨_,e⟩
 | met f y=>exact ⟨_,(show h.get? a=some _ from x)⟩
 | ext φ=>obtain ⟨_,⟨_,e⟩,_⟩:=x; exact ⟨_,e⟩
section
variable {X:Cx} {pins:List (Addr×Obj)} {σ:L2.St} {H:Hp} {s:Shared} {h':Heap} {e:Addr} {cls a0:Value} {P:List Addr}
theorem flown (I:Inv X pins σ H s) (T:A2 X pins H s e cls a0 P) (kp:∀ b o,b∉P->b∉frs X.stack->s.heap.get? b=some o->h'.get? b=some o) (us:s.heap.UpToSlots h'):Inv X pins σ H { s with heap:=h' }:=by
 have frame:∀ b∈frs X.stack,∃ o,s.heap.get? b=some o /\ ∀ vs,o.data≠.fields vs:=fun b hb=>(I.stack.mem hb).2
 have old:∀ b o,X.s₀.heap.get? b=some o->b∉P:=fun b o q hb=>by rw [T.new b hb] at q; cases q
 have QY:∀ b o,X.s₀.heap.get? b=some o->b≠X.env.locals:=fun b o q=>Nat.ne_of_lt (Nat.lt_of_lt_of_le (Heap.lt_size q) I.ok.above)
 have cellK:∀ c v,s.heap.IsCell c v->h'.IsCell c v:=fun c v aCw=>by
  obtain ⟨o,ho,hd⟩:=aCw
  obtain ⟨sl,q⟩:=us c o ho fun vs z=>by rw [hd] at z; cases z
  exact ⟨_,q,hd⟩
 obtain ⟨m,hn,hl⟩:=id I.loc
 refine ⟨I.ok,I.os,I.bare,⟨fun b o eb n hb hx=>?_,fun b o eb n hb hx=>?_,I.base.free,fun b o eb hx=>?_,I.base.tups,I.base.oI,I.base.nI⟩,⟨m,us.ns hn,fun i x v h1 h2 h3=>?_⟩,fun x c ec=>?_,I.free,I.jK,fun p hp=>?_,fun b ob eb=>?_,I.len⟩
 ·exact kp b o (old b o eb) (fun z=>(List.mem_cons.mp (I.nJ b z)).elim (QY b o eb) hb) (I.base.keep b o eb n hb hx)
 ·obtain ⟨sl,q⟩:=I.base.slot b o eb n hb hx
  obtain ⟨_,o2,e2,nf⟩:=I.ok.sO.mem hb
  rw [eb] at e2
  obtain rfl:=Option.some.inj e2
  obtain ⟨sl2,q2⟩:=us b { o with slots:=sl } q nf
  exact ⟨sl2,q2⟩
 ·obtain ⟨o',q⟩:=I.base.there b o eb hx
  by_cases hf:b∈frs X.stack
  ·obtain ⟨o2,e2,nf⟩:=frame b hf
   obtain ⟨sl,q2⟩:=us b o2 e2 nf
   exact ⟨_,q2⟩
  ·exact ⟨o',kp b o' (old b o eb) hf q⟩
 ·obtain ⟨u,r,l⟩:=hl i x v h1 h2 h3
  exact ⟨u,r,l.imp id fun ⟨k,c,ec,ic⟩=>⟨k,c,ec,cellK _ _ ic⟩⟩
 ·obtain ⟨v,ic⟩:=I.cell x c ec
  exact ⟨v,cellK _ _ ic⟩
 ·obtain ⟨q,n,ne,nf,d⟩:=I.pin p hp
  exact ⟨kp _ _ (fun z=>T.pin _ z p hp rfl) (fun z=>(List.mem_cons.mp (I.nJ _ z)).elim ne nf) q,n,ne,nf,d⟩
 ·refine (I.hok b ob eb).stay (fun c u hc q=>kp c u (fun z=>?_) (fun z=>?_) q) (fun _ q=>q) fun _ _ q=>q
  ·have fr:=T.free c z
   rcases hc with rfl | hc
   ·rw [fr] at eb; cases eb
   ·rw [fr] at hc; cases hc
  ·have fr:=I.AE c z
   rcases hc with rfl | hc
   ·rw [fr] at eb; cases eb
   ·rw [fr] at hc; cases hc
end
def BE (P:Program) (w:World):K2:=fun outer H s E e s'=>∃ (ea T:Addr) (cls a0:Value) (H':Hp) (oe oT:Obj) (vs ts:Array Value),e=.ref ea/\s'.os=s.os/\AllBare s'.gens/\Un (frs outer) [] H H' s.heap s'.heap/\nH P w H' s'.heap /\
 H' ea=none/\H' T=none/\s.heap.get? ea=none/\s.heap.get? T=none/\T≠ea/\s'.heap.get? ea=some oe/\(oe.cls=cls/\vs[0]? = some a0)/\oe.data=.fields vs/\vs[1]? = some (.ref T)/\s'.heap.get? T=some oT/\oT.data=.fields ts/\ts[3]? = some .none/\E cls none H'
section
variable {P:Program} {w:World} {K:PySem.W.Frag} {mg:Str->Option Value} {base:Heap} {N:List Str} {qual:Str} {scope:Scope} {f:Addr} {cd:Value} {A:Around} {outer:List Env} {s0:Shared} {H0:Hp} {E:XK}
theorem Q6 {pins:List (Addr×Obj)} {σ:L2.St} {H:Hp} {s:Shared} {e:Addr} {cls a0:Value} {Q:List Addr} (I:Inv (qI (BE P w) P w K mg base N qual scope f cd A outer s0 H0 E) pins σ H s)
  (T:A2 (qI (BE P w) P w K mg base N qual scope f cd A outer s0 H0 E) pins H s e cls a0 Q) (hE:E cls none H):(qI (BE P w) P w K mg base N qual scope f cd A outer s0 H0 E).xe (.ref e) s:=by
 generalize hX:qI (BE P w) P w K mg base N qual scope f cd A outer s0 H0 E=X at I T
 have st:X.stack=X.env::outer:=by rw [<- hX]; rfl
 have hin:∀ env∈X.stack,∀ b,env.frame=some b->b∈Q++frs X.stack:=fun env he b hb=>List.mem_append_right _ (List.mem_filterMap.mpr ⟨env,he,hb⟩)
 have stay:(PySem.W.hideAll s.heap (Q++frs X.stack)).StaysIn s.heap:=fun b o q=>PySem.W.of_hideAll _ q
 have fns:s.heap.FunFrames (PySem.W.hideAll s.heap (Q++frs X.stack)) X.stack:=PySem.W.funFrames_hide I.stack hin
 have hen:(PySem.W.hideAll s.heap (Q++frs X.stack)).get? e=none:=PySem.W.hideAll_none _ (List.mem_append_left _ T.mem)
 have fin:∀ h',Heap.LeftW (PySem.W.hideAll s.heap (Q++frs X.stack)) X.stack e cls a0 s.heap h'->BE P w outer H0 s0 E (.ref e) { s with heap:=h' }:=fun h' aCx=>by
  obtain ⟨k1,k2,k3,k4⟩:=aCx
  have J:=flown I T (fun b o n1 n2 q=>k1 b o (PySem.W.hideAll_get _ q fun z=>(List.mem_append.mp z).elim n1 n2)) k4
  obtain ⟨oe,vs,T2,oT,ts,he,hc,hd,h1,hnT,hTe,hT,hdT,h3⟩:=k3
  have hfr:T2∉frs X.stack:=fun z=>by
   obtain ⟨_,o,ho,nf⟩:=I.stack.mem z
   obtain ⟨sl,q⟩:=k4 T2 o ho nf
   rw [hT] at q
   cases q
   exact nf ts hdT
  have hT2:T2∈Q\/s.heap.get? T2=none:=by
   by_cases hq:T2∈Q
   ·exact .inl hq
   ·right
    cases q:s.heap.get? T2 with
    | none=>rfl
    | some o =>
     have:=PySem.W.hideAll_get (Q++frs X.stack) q fun z=>(List.mem_append.mp z).elim hq hfr
     rw [hnT] at this
     cases this
  have e1:X.fs=frs outer:=by rw [<- hX]; rfl
  have e2:X.ex=[]:=by rw [<- hX]; rfl
  have e3:X.H₀=H0:=by rw [<- hX]; rfl
  have e4:X.s₀=s0:=by rw [<- hX]; rfl
  have e5:X.prog=P:=by rw [<- hX]; rfl
  have e6:X.w=w:=by rw [<- hX]; rfl
  have b0:=J.base
  have b1:=J.hok
  have b2:=J.os
  rw [e1,e2,e3,e4] at b0
  rw [e5,e6] at b1
  rw [e4] at b2
  refine ⟨e,T2,cls,a0,H,oe,oT,vs,ts,rfl,b2,J.bare,b0,b1,T.free e T.mem,?_,?_,?_,hTe,he,hc,hd,h1,hT,hdT,h3,hE⟩
  ·rcases hT2 with z | z
   ·exact T.free _ z
   ·cases q:H T2 with
    | none=>rfl
    | some o =>
     obtain ⟨u,eu⟩:=qR (I.hok _ _ q)
     rw [z] at eu; cases eu
  ·rw [<- e4]; exact T.new e T.mem
  ·rcases hT2 with z | z
   ·rw [<- e4]; exact T.new _ z
   ·cases q:s0.heap.get? T2 with
    | none=>rfl
    | some o =>
     have tb:=I.base.there T2 o (by rw [e4]; exact q) (by rw [e2]; simp)
     obtain ⟨o',eo⟩:=tb
     rw [z] at eo; cases eo
 have go:wpAny (model P w) X.A (leaving X.env (.ref e)) (fun _ s''=>BE P w outer H0 s0 E (.ref e) s'') (fun e' s''=>BE P w outer H0 s0 E e' s'') s:=by
  have hfr:=I.ok.frames
  have hf:X.env.frame=some X.env.locals:=by rw [<- hX]; rfl
  rw [st] at hfr
  rw [st] at fns fin hen stay
  rcases T.tr with ⟨oe,vs,he,hc,hd,h1,h0⟩ | ⟨oe,vs,T2,oT,ts,he,hc,hd,h1,hm,hTe,hT,hdT,h3⟩
  ·subst hc
   exact wpAny_leaving_firstW hfr fns hf he stay hen hd h1 h0 fun h' L=>fin h' L
  ·refine wpAny_leaving_nextW hfr fns hf ⟨oe,vs,T2,oT,ts,he,hc,hd,h1,PySem.W.hideAll_none _ (List.mem_append_left _ hm),hTe,hT,hdT,h3⟩ stay hen fun h' L=>fin h' L
 rw [<- hX] at go ⊢
 exact go
end
theorem DJ {X:Cx} {pins:List (Addr×Obj)} {σ:L2.St} {H:Hp} {s s':Shared} {E:XK} {e:Value} (hx:X.ex=[]) (I:Inv X pins σ H s) (c:BE X.prog X.w X.stack H s E e s') :
  ∃ ea cls a0 H' Q,e=.ref ea/\Inv X pins σ H' s'/\A2 X pins H' s' ea cls a0 Q/\E cls none H':=by
 obtain ⟨ea,T,cls,a0,H',oe,oT,vs,ts,rfl,os,bare,un,hok,n1,n2,g1,g2,hTe,he,hc,hd,h1,hT,hdT,h3,hE⟩:=c
 have J:Inv X pins σ H' s':=I.call' (ch:=[]) os un hok bare fun b z=>absurd z (by simp)
 have no:∀ q,q∈[ea,T]->s.heap.get? q=none:=fun q hq=>by
  rcases List.mem_cons.1 hq with rfl | hq
  ·exact g1
  ·rw [List.mem_singleton.mp hq]; exact g2
 refine ⟨ea,cls,a0,H',[ea,T],rfl,J,⟨List.mem_cons_self,fun q hq=>?_,fun q hq=>?_,fun q hq=>?_,fun q hq p hp z=>?_,.inr ⟨oe,vs,T,oT,ts,he,hc,hd,h1,by simp,hTe,hT,hdT,h3⟩⟩,hE⟩
 ·rcases List.mem_cons.1 hq with rfl | hq
  ·exact n1
  ·rw [List.mem_singleton.mp hq]; exact n2
 ·cases k:X.s₀.heap.get? q with
  | none=>rfl
  | some o =>
   obtain ⟨o',eo⟩:=I.base.there q o k (by rw [hx]; simp)
   rw [no q hq] at eo; cases eo
 ·rcases List.mem_cons.1 hq with rfl | hq
  ·exact ⟨oe,vs,he,hd⟩
  ·rw [List.mem_singleton.mp hq]; exact ⟨oT,ts,hT,hdT⟩
 ·have:=(I.pin p hp).1
  rw [z,no q hq] at this; cases this
def Q7 (K:PySem.W.Frag) (mg:Str->Option Value) (R:dP):Sp:=fun vs H Q E=>∃ (S:Addr->Prop) (ds:List D),(∀ a,H a=none->S a)/\aR K S H ds vs/\match R ds with
 | .ok d=>∀ v H',Same H H'->Dn K S H' d v->Q v H'
 | .ex c=>∃ C:Addr,mg c=some (.ref C) /\ ∀ H',Same H H'->E (.ref C) none H'
 | .no=>False
theorem aCy {P:Program} {w:World} {K:PySem.W.Frag} {mg:Str->Option Value} {base:Heap} {x qual:Str} {st:Stmt} {f:Addr} {fd:FuncData} {N ps:List Str} {k n np:Nat} {b:SF} (F:nL K x qual st f fd) (S:bJ N ps (aI st)) (hn:N.length=n) (hp:ps.length=np)
  (hbody:∀ (cdv:Value) (A:Around) (outer:List Env) (s:Shared) (H:Hp) (E:XK),iU k (A.deeper (envOfC qual (aI st) s.heap.objs.size f cdv)) ->
   A5 (qI (BE P w) P w K mg base N qual (aI st) f cdv A outer s H E) (bD st) b):aU P w K mg base (BE P w) (k+1) f fd ps (Q7 K mg (aX n np b)):=by
 subst hn hp
 obtain ⟨oc,od,kV,doc,pm,an,cdv,ct,osl,rfl,lk,hcd⟩:=F.ex
 have hlen:∀ ds:List D,aX N.length ps.length b ds≠.no->ds.length=ps.length:=fun ds h=>by
  by_cases e:ds.length=ps.length
  ·exact e
  ·exact absurd (show aX N.length ps.length b ds=.no by unfold aX; rw [if_neg e]) h
 refine WM lk hcd S (fun vs H Q E h=>?_) fun A outer s H vs Q E hr h=>?_
 ·obtain ⟨S',ds,_,dn,hR⟩:=h
  rw [<- dn.len]
  exact hlen ds fun z=>by rw [z] at hR; exact hR
 ·obtain ⟨S',ds,fc,dn,hR⟩:=h
  have hl:ds.length=ps.length:=hlen ds fun z=>by rw [z] at hR; exact hR
  have hdn:=dn.len
  refine ⟨_,hbody cdv A outer s H E hr,H,S',fun _=>0,jD N ds,[],{ nx:=fun _=>aX N.length ps.length b ds=.ok .non,rt:=fun d=>aX N.length ps.length b ds=.ok d,ex:=fun c=>aX N.length ps.length b ds=.ex c },?_,CT fc dn,?_,⟨fun w' σ' H' ρ' _ st' q=>?_,fun v H' d s' d' q=>?_,fun _ _ _ _ _ _ q=>q,fun _ _ _ _ _ _ q=>q,fun c H' sm q=>?_⟩⟩
  ·have hp:ps.length<=N.length:=by have:=congrArg List.length S.pre; rw [List.length_take] at this; omega
   unfold L2.start
   show _=N.length
   rw [List.length_append,List.length_map,List.length_replicate]
   omega
  ·have e2:jD N ds=cV N.length ds:=rfl
   have e3:aX N.length ps.length b ds=(match b (cV N.length ds) with | .rt d=>.ok d | .nx _=>.ok .non | .ex c=>.ex c | .no=>.no):=by unfold aX; rw [if_pos hl]<;>cases b (cV N.length ds)<;>rfl
   rw [e3] at hR
   unfold wS
   rw [e2]
   cases hb:b (cV N.length ds) with
   | rt d'=>rw [hb] at e3; exact e3
   | nx ρ=>rw [hb] at e3; exact e3
   | ex c=>rw [hb] at e3; exact e3
   | no=>rw [hb] at hR; exact hR
  ·rw [q] at hR
   exact hR .non H' st'.sm (by simp only [Dn])
  ·rw [q] at hR
   exact hR v H' s' d'
  ·rw [q] at hR
   obtain ⟨C,hm,hE⟩:=hR
   exact ⟨C,hm,fun pins σ s' e a0 P I T=>Q6 I T (hE H' sm)⟩
section
variable {X:Cx} {k:Nat} {f:Addr} {fd:FuncData} {ps:List Str} {R:dP} {x:Str} {p pos:Pos} {e:Expr} {es:List Expr} {t:AF}
theorem Q8 (F:aU X.prog X.w X.K X.mg X.base (BE X.prog X.w) k f fd ps (Q7 X.K X.mg R)) (hr:iU k X.A) (hm:X.mg x=some (.ref f)) (hk:PySem.W.keepIn X.K (.ref f)=true) (hb:Binds X.K fd ps [])
  (ha:xC X (e::es) t) (hg:Gl X x:=by rfl) (hdb:(x == ("__debug__" : Str))=false:=by decide) (he:starEach (e::es) X.env=(false,eval e X.env)::starEach es X.env:=by rfl) (hpl:(backTo pos (starEach es X.env)).any (·.1)=false:=by rfl) :
  bO X (.Call (.Name x p) (e::es) [] pos) (aF R t):=imp (AL (E:=E0) F hr hg hm hk hb .nil (fun pins σ H s e s' _ c=>by obtain ⟨_,_,_,_,_,_,_,_,_,_,_,_,_,_,_,_,_,_,_,_,_,_,_,_,_,_,hE⟩:=c; exact hE.elim) ha hdb he hpl) fun σ H Q aCz=>by
 obtain ⟨S,ρ,Q3,fc,sl,⟨d,ed,q3⟩,k⟩:=aCz
 obtain ⟨ds,et,ed⟩:=bnd ed
 refine ⟨S,ρ,fun z=>z=ds,fc,sl,⟨ds,et,rfl⟩,fun vs H1 ds' s1 d1 q1=>?_⟩
 subst q1
 show Q7 X.K X.mg R (vs++[]) H1 Q E0
 rw [List.append_nil]
 refine ⟨S,ds',aW fc s1,d1,?_⟩
 cases h:R ds' with
 | ok d'=>rw [h] at ed; cases ed; exact fun v H' s' d'=>k v H' _ (s1.trans s') d' q3
 | no=>rw [h] at ed; cases ed
 | ex c=>rw [h] at ed; cases ed
def tR (X:Cx) (r:RF):TE:=fun σ H _=>∃ (S:Addr->Prop) (ρ:bN) (c:Str),(∀ a,H a=none->S a)/\Sl X.K S H ρ σ/\r ρ=some c /\ ∀ H',Same H H'->XC X c H'
def PR (X:Cx) (e:Expr) (r:RF):Prop:=PE X e (tR X r)
theorem aAQ (hx:X.ex=[]) (F:aU X.prog X.w X.K X.mg X.base (BE X.prog X.w) k f fd ps (Q7 X.K X.mg R)) (hr:iU k X.A) (hm:X.mg x=some (.ref f)) (hk:PySem.W.keepIn X.K (.ref f)=true) (hb:Binds X.K fd ps [])
  (ha:xC X (e::es) t) (hg:Gl X x:=by rfl) (hdb:(x == ("__debug__" : Str))=false:=by decide) (he:starEach (e::es) X.env=(false,eval e X.env)::starEach es X.env:=by rfl) (hpl:(backTo pos (starEach es X.env)).any (·.1)=false:=by rfl) :
  PR X (.Call (.Name x p) (e::es) [] pos) (rK R t):=imp (AL (E:=fun cls _ H'=>∃ c C,cls=.ref C/\X.mg c=some (.ref C)/\XC X c H') F hr hg hm hk hb .nil (fun pins σ H s e s' I c=>by
   obtain ⟨ea,cls,a0,H',Q,rfl,J,T,c,C,rfl,hmc,C2,hm2,xc⟩:=DJ hx I c
   rw [hmc] at hm2
   cases hm2
   exact xc pins σ s' ea a0 Q J T) ha hdb he hpl) fun σ H Q aDA=>by
 obtain ⟨S,ρ,c,fc,sl,ec,k⟩:=aDA
 obtain ⟨ds,et,ed⟩:=bnd ec
 refine ⟨S,ρ,fun z=>z=ds,fc,sl,⟨ds,et,rfl⟩,fun vs H1 ds' s1 d1 q1=>?_⟩
 subst q1
 rw [List.append_nil]
 refine ⟨S,ds',aW fc s1,d1,?_⟩
 cases h:R ds' with
 | ex c' =>
  rw [h] at ed
  cases ed
  obtain ⟨C,hmC,_⟩:=k H1 s1
  exact ⟨C,hmC,fun H' sm=>⟨c,C,rfl,hmC,k H' (s1.trans sm)⟩⟩
 | ok d=>rw [h] at ed; cases ed
 | no=>rw [h] at ed; cases ed
theorem aAR {e:Expr} {t u:TE} (h1:PE X e t) (h2:PE X e u):PE X e (fun σ H Q=>t σ H Q\/u σ H Q):=fun pins s σ H Q I h=>h.elim (h1 pins s σ H Q I) (h2 pins s σ H Q I)
theorem aAS {e:Expr} {f:EF} {r:RF} {pos:Pos} (h:bO X e f) (hr:PR X e r) (hs:swapsWith e none pos.line X.env=pure false:=by rfl):C6 X (.Expr e pos) (zJ r (sX (aM f))):=qM (IP (aAR hr h) hs) fun B σ H aDB=>by
 obtain ⟨H₀,S,w,ρ,G,E,hl,st,ht,ok⟩:=aDB
 unfold wS zJ at ht
 cases hc:r (bQ ρ) with
 | some c =>
  rw [hc] at ht
  exact .inl ⟨S,bQ ρ,c,st.PM,st.all,hc,fun H' sm=>ok.ex c H' (st.sm.trans sm) ht⟩
 | none =>
  rw [hc] at ht
  dsimp only at ht
  unfold sX aM at ht
  cases hf:f (jY ρ) with
  | none=>rw [hf] at ht; exact ht.elim
  | some d =>
   rw [hf] at ht
   exact .inr ⟨_,jY ρ,_,st.ZH,st.rd,⟨d,hf,ht⟩,fun v H' d s' d' q'=>ok.nx w σ H' ρ hl (st.same s') q'⟩
end
abbrev bmV:List Value:=[.type "ValueError",.type "Exception",.type "BaseException",.type "object"]
structure VL (K:PySem.W.Frag) (C:Addr):Prop where
 ex:∃ nm q N bs bm hdct sn sub ab col dd k0 k1 k2 k3 k5,K.lookup C=some (excClassObj nm q C N bs bm hdct sn sub ab col dd k0 k1 k2 k3 k5 "ValueError.__new__")/\PySem.W.tailIn K bmV bm=true/\PySem.W.nsOkIn K N=true/\PySem.W.nsIn K N "__init__" = some none
section
variable {X:Cx}
theorem Q9 {c:Str} {C:Addr} {e:Expr} {es:List Expr} {t:AF} {np cpos pos:Pos} (hx:X.ex=[]) (hcalm:X.calm=true) (hm:X.mg c=some (.ref C)) (hC:VL X.K C) (ha:xC X (e::es) t) (hg:Gl X c:=by rfl) (hd:(c == ("__debug__" : Str))=false:=by decide)
  (he:starEach (e::es) X.env=(false,eval e X.env)::starEach es X.env:=by rfl) (hpl:(backTo cpos (starEach es X.env)).any (·.1)=false:=by rfl) :
  C6 X (.Raise (some (.Call (.Name c np) (e::es) [] cpos)) none pos) (sU t c):=by
 intro pins s σ H B I ⟨H₀,S,w,ρ,G,E,hl,st,ht,ok⟩
 unfold wS sU at ht
 cases et:t (bQ ρ) with
 | none=>rw [et] at ht; exact ht.elim
 | some ds =>
  rw [et] at ht
  dsimp only at ht
  by_cases h10:ds.length<=10
  ·rw [if_pos h10] at ht
   obtain ⟨nm,q,N,bs,bm,hdct,sn,sub,ab,col,dd,k0,k1,k2,k3,k5,lk,tl,no,ni⟩:=hC.ex
   refine wpAny_Raise_call_subT (C:=C) (nm:=nm) (q:=q) (N:=N) (bs:=bs) (bm:=bm) (hdct:=hdct) (sn:=sn) (sub:=sub) (ab:=ab) (col:=col) (dd:=dd) (k0:=k0) (k1:=k1) (k2:=k2) (k3:=k3) (k5:=k5) (mN:=X.base.nsMap N)
    PySem.F.excBase_ValueError ((PySem.W.tail_of_in I.wM tl).hasType rfl) (I.ok.hd hcalm) (by rw [he]; show (false||(backTo cpos (starEach es X.env)).any (·.1))=false; rw [hpl]; rfl) (PySem.W.nsMap_none_of_in I.ok.mod.kin no ni) (AH I hg hm ⟨rfl,?_⟩ hd)
   have hN:X.base.Ns N (X.base.nsMap N):=.of_isNs (PySem.W.isNs_of_in I.ok.mod.kin no)
   have args:=ha cpos pins s σ H (fun vs H1=>vs.length=ds.length/\Same H H1) I ⟨S,bQ ρ,fun z=>z=ds,st.PM,st.all,⟨ds,et,rfl⟩,fun vs H1 ds' s1 d1 q1=>⟨by rw [<- d1.len,q1],s1⟩⟩
   rw [he] at args ⊢
   refine Calls.evalArgs_plain (wpAny_mono args (fun us s1 ⟨vs,H1,I1,r,hlen,sm⟩=>?_) fun _ _ z=>z)
   refine ⟨rfl,?_,I1.wM _ _ lk,hN.keeps I1.bk,PySem.W.tail_of_in I1.wM tl,fun h' ea mk=>?_⟩
   ·show us.length<=sizeLine
    rw [<- r.length,hlen]
    exact Nat.le_trans h10 (by decide)
   ·obtain ⟨C',hm',xc⟩:=ok.ex c H1 (st.sm.trans sm) ht
    rw [hm] at hm'
    cases hm'
    obtain ⟨tt,oe,_,_⟩:=mk.there
    have I2:Inv X pins σ H1 { s1 with heap:=h' }:=I1.kept (t':=s1.toks) mk.keeps
    refine xc pins σ _ ea (.ref tt) [ea] I2 ⟨List.mem_cons_self,fun q hq=>?_,fun q hq=>?_,fun q hq=>?_,fun q hq p hp z=>?_,.inl ⟨_,_,oe,rfl,rfl,rfl,rfl⟩⟩
    ·rw [List.mem_singleton.1 hq]
     cases k:H1 ea with
     | none=>rfl
     | some o =>
      obtain ⟨u,eu⟩:=qR (I1.hok _ _ k)
      rw [mk.new] at eu; cases eu
    ·rw [List.mem_singleton.1 hq]
     cases k:X.s₀.heap.get? ea with
     | none=>rfl
     | some o =>
      obtain ⟨o',eo⟩:=I1.base.there ea o k (by rw [hx]; simp)
      rw [mk.new] at eo; cases eo
    ·rw [List.mem_singleton.1 hq]
     exact ⟨_,_,oe,rfl⟩
    ·have:=(I1.pin p hp).1
     rw [z,List.mem_singleton.mp hq,mk.new] at this; cases this
  ·rw [if_neg h10] at ht; exact ht.elim
end
end L5
end
section
namespace L5
open PySem PySem.Spec PyProof.Rows L2 L3 L4 PySem.W Builtin.ObjectAttr Builtin.Getset_descriptor
structure aMb (K:PySem.W.Frag) (C:Addr):Prop where
 hc:isClsIn K C=true
 hm:mroIn K C (.type "object")=some true
 hs:subIn K (.ref C) (.type "BaseException")=some true
 hga:findIn K (.ref C) "__getattribute__" = some (some (.builtin "BaseException.__getattribute__"))
 hgg:findIn K (.ref C) "__getattr__" = some none
 ha:findIn K (.ref C) "__class__" = some (some (.builtin "object.__class__"))
 hn:specialIn K (.builtin "object.__class__") "__get__" = some (some (.builtin "getset_descriptor.__get__"))
 ht:takesIn K (.builtin "object.__class__")=some true
section
variable {prog:Program} {w:World} {A:Around} {E:Value->Shared->Prop} {s:Shared} {K:PySem.W.Frag} {a C:Addr}
end
end L5
end
section
namespace L5
open PySem PySem.Spec PyProof.Rows L2 L3 L4
section
variable {X:Cx}
end
section
variable {X:Cx} {pins:List (Addr×Obj)} {σ:L2.St} {H:Hp} {s:Shared}
end
section
variable {X:Cx}
end
section
variable {X:Cx}
theorem lB {p:Prop} (h:false=true):p:=nomatch h
noncomputable def ExI (mro:List Value) (sl:List (Option Value)) (P:Addr->List Value->String->Bool):Prop:=∃ C1 bm y0 y1 y2 y3 n y5,mro=.ref C1::bm/\sl=[y0,y1,y2,y3,some (.builtin n),y5]/\P C1 bm n=true
theorem MD {mro:List Value} {sl:List (Option Value)} {P:Addr->List Value->String->Bool} (h:PySem.W.excIn.match_1 (fun _ _=>Bool) mro sl (fun C1 bm _ _ _ _ n _=>P C1 bm n) (fun _ _=>false)=true) :
  ExI mro sl P:=by
 cases mro with
 | nil=>exact lB h
 | cons v bm =>
 cases v with
 | ref C1 =>
  cases sl with
  | nil=>exact lB h
  | cons y0 sl =>
  cases sl with
  | nil=>exact lB h
  | cons y1 sl =>
  cases sl with
  | nil=>exact lB h
  | cons y2 sl =>
  cases sl with
  | nil=>exact lB h
  | cons y3 sl =>
  cases sl with
  | nil=>exact lB h
  | cons y4 sl =>
  cases y4 with
  | none=>exact lB h
  | some w =>
  cases w with
  | builtin n =>
   cases sl with
   | nil=>exact lB h
   | cons y5 sl =>
   cases sl with
   | cons z sl=>exact lB h
   | nil=>exact ⟨C1,bm,y0,y1,y2,y3,n,y5,rfl,rfl,h⟩
  | _=>exact lB h
 | _=>exact lB h
theorem JR {K:PySem.W.Frag} {C:Addr} (h:PySem.W.excIn K C bmV "ValueError.__new__" = true):VL K C:=by
 unfold PySem.W.excIn at h
 split at h
 ·rename_i dd cd sl lk
  obtain ⟨C1,bm,y0,y1,y2,y3,n,y5,e1,e2,h⟩:=MD h
  obtain ⟨a1,a2,a3,a4,a5,a6,a7,a8,a9,a10,a11⟩:=cd
  obtain ⟨sl⟩:=sl
  dsimp only at e1 e2 h
  subst e1 e2
  simp only [Bool.and_eq_true,beq_iff_eq,Bool.not_eq_true'] at h
  obtain ⟨⟨⟨⟨⟨g1,g2⟩,g3⟩,g4⟩,g5⟩,g6⟩:=h
  subst g1 g2 g3
  exact ⟨⟨a1,a5,a4,a2,bm,a6,a7,a8,a9,a10,dd,y0,y1,y2,y3,y5,lk,g4,g5,g6⟩⟩
 ·cases h
end
end L5
end
section
namespace L5
open PySem PySem.Spec PyProof.Rows L2 L3 L4 PySem.W
variable {K:PySem.W.Frag} {C D:Addr}
structure aIJ (K:PySem.W.Frag) (C D:Addr):Prop where
 ne:(Value.ref C == Value.ref D)=false
 c:isClsIn K D=true
 t:typeIn K (.ref D)=some (.type "type")
 s:subIn K (.ref C) (.ref D)=some false
end L5
end
section
namespace L5
open PySem PySem.Spec PyProof.Rows L2 L3 L4
section
variable {X:Cx}
end
end L5
end
section
namespace L5
open PySem PySem.Spec PyProof.Rows L2 L3 L4 Att
section
variable {X:Cx} {pins:List (Addr×Obj)} {σ:L2.St} {H:Hp} {s:Shared}
theorem VM {D:Addr} {u:HO} {m:Str->Option Value} {h':Heap} {t':Nat} (I:Inv X pins σ H s) (hns:s.heap.Ns X.env.locals m) (ns':h'.Ns X.env.locals m) (pB:∀ b o,b≠X.env.locals->s.heap.get? b=some o->h'.get? b=some o) (dead:s.heap.get? D=none)
  (ok:dA X.prog X.w (upd H D u) h' D u):H D=none/\Inv X pins σ (upd H D u) { s with heap:=h',toks:=t' }:=by
 have hfr:H D=none:=by
  cases e:H D with
  | none=>rfl
  | some u =>
   obtain ⟨o,eo⟩:=qR (I.hok D u e)
   rw [dead] at eo
   cases eo
 have neD:∀ {b:Addr} {o:Obj},s.heap.get? b=some o->b≠D:=fun {b o} e z=>by rw [z,dead] at e; cases e
 have MC:∀ {b:Addr} {u:HO},H b=some u->b≠D:=fun {b u} e z=>by rw [z,hfr] at e; cases e
 refine ⟨hfr,?_⟩
 show L2.Inv X pins σ _ { s with heap:=h',toks:=t' }
 refine I.step (s:=s) (h':=h') (g':=s.gens) (t':=t') (d':=s.drawn) (ch:=[]) (fun b hb=>nomatch hb) (fun b o hb _ _ e _=>pB b o hb e) (fun b o hb _ _ e _=>⟨o.slots,pB b o hb e⟩) (fun b o _ e n=>by rw [aO (neD e)]; exact n) (fun b o _ e=>?_)
  (fun b xs e=>by rw [aO (MC e)]; exact e) (fun b o u e=>by rw [aO (MC e)]; exact e) (fun b ps e=>by rw [aO (MC e),e]) (fun m2 hm2=>?_) ?_ I.bare
 ·by_cases hb:b=X.env.locals
  ·subst hb
   obtain ⟨o2,_,_,e2,_⟩:=ns'
   exact ⟨o2,e2⟩
  ·exact ⟨o,pB b o hb e⟩
 ·have:m2=m:=by
   obtain ⟨oa,ea,pa,h1,h2,_,h3⟩:=hm2
   obtain ⟨ob,eb,pb,k1,k2,_,k3⟩:=hns
   rw [h1] at k1
   cases k1
   rw [h2] at k2
   cases k2
   funext x
   rw [<- h3,<- k3]
  subst this
  exact ns'
 ·intro b v e
  by_cases hb:b=D
  ·subst hb
   rw [aS] at e
   cases e
   exact ok
  ·rw [aO hb] at e
   refine (I.hok b v e).stay (fun c w hc ew=>pB c w (fun z=>?_) ew) (fun c ec=>by rw [aO (MC ec)]; exact ec) (fun c ys ec=>by rw [aO (MC ec)]; exact ec) fun c o u ec=>by rw [aO (MC ec)]; exact ec
   subst z
   rcases hc with hc | hc
   ·rw [<- hc,I.free] at e; cases e
   ·rw [I.free] at hc; cases hc
def aAT:V->List V->Hp->VK->Prop:=fun x xs H Q=>∃ z y,x=.str z/\xs=[.str y]/\z.length+2<=sizeLine/\(y.length == 0)=false /\ ∀ l,H l=none->Q (.ref l) (upd H l (.lst ((Txt.split z y).map V.str)))
theorem yS:∀ l:List (Str×Tok),Vals ((l.map (·.1)).map V.str) (strValues l)
 | []=>.nil
 | p::r=>.cons ⟨p.2,rfl⟩ (yS r)
theorem RA:MtR X "str.split" aAT:=by
 intro pins s σ H x xs v us Q I rx r h
 obtain ⟨z,y,rfl,rfl,hz,hy,q⟩:=h
 obtain ⟨u,rfl,ty,rfl⟩:=vals1 r
 obtain ⟨tz,rfl⟩:=rx
 obtain ⟨m,hns,_⟩:=id I.loc
 refine splitN1 (h₀:=uU s.heap) (L:=X.env.locals) (m:=m) (news:=ledger s.heap X.env.locals s.heap.objs.size) (O7 hns) (fun p hp=>?_) hy (fun l h' k e F N=>?_) hz
 ·obtain ⟨x,o⟩:=p
  obtain ⟨n1,_,e⟩:=gD.mp hp
  exact ⟨e,n1,nK _ _⟩
 ·have dead:s.heap.get? s.heap.objs.size=none:=Heap.get?_none_of_le (Nat.le_refl _)
  obtain ⟨hf,I'⟩:=VM (D:=s.heap.objs.size) (u:=.lst ((Txt.split z y).map V.str)) (t':=k) I hns F.ns (fun b o hb e=>(N (b,o) (List.mem_cons_of_mem _ (gD.mpr ⟨hb,Nat.ne_of_lt (Heap.lt_size e),e⟩))).1) dead
   ⟨by rw [List.length_map]; exact Nat.le_trans (PyProof.Rows.fact_split z y).2 hz,strValues l,0,by rw [<- e]; exact yS l,(N _ (List.mem_cons_self ..)).1⟩
  exact ⟨.ref s.heap.objs.size,_,I',rfl,q _ hf⟩
theorem DK {K:PySem.W.Frag} {S:Addr->Prop} {H:Hp}:∀ l:List Str,aR K S H (l.map D.str) (l.map V.str)
 | []=>aR.nil
 | x::r=>aR.cons (by simp only [Dn]) (DK r)
theorem ME {a b d:D} (h:splitM a b=some d):∃ x y,a=.str x/\b=.str y/\(x.length+2<=gX/\(y.length == 0)=false)/\d=.lst ((Txt.split x y).map D.str):=by
 unfold splitM at h
 split at h
 ·split at h
  ·rename_i z
   cases h
   exact ⟨_,_,rfl,rfl,z,rfl⟩
  ·cases h
 ·cases h
theorem aAU {o e:Expr} {fo fe:EF} {apos cpos:Pos} (ho:bO X o fo) (he:bO X e fe) (hbase:attributeBase o "split" X.env (eval o X.env)=eval o X.env:=by rfl)
  (hfew:((backTo cpos (starEach [e] X.env)).all (fun x=>!x.1)&&(backToKw cpos (keywordEach [] X.env)).all (fun x=>x.1.isSome)
   && decide ([e].length+([]:List Keyword).length+(if ([]:List Keyword).isEmpty then 0 else 1)<30))=true:=by rfl)
  (hline:(apos.endLine == cpos.line)=true:=by rfl) (hs:starEach [e] X.env=(false,eval e X.env)::starEach [] X.env:=by rfl) (hplain:(backTo cpos (starEach [] X.env)).any (·.1)=false:=by rfl) :
  j6 X (.Call (.Attribute o "split" apos) [e] [] cpos) (aE splitM fo fe) :=
 imp (IZ F.plainAttrs_str F.slot_str_split F.type_str_split RA ho (gO he kP hs) hbase hfew hline hs hplain) fun σ H Q aDC=>by
  obtain ⟨S,ρ,Q3,fc,sl,⟨d,ed,q3⟩,k⟩:=aDC
  obtain ⟨dx,ex,ed⟩:=bnd ed
  obtain ⟨dy,ey,ed⟩:=bnd ed
  obtain ⟨x,y,rfl,rfl,hz,rfl⟩:=ME ed
  refine ⟨S,ρ,fun z=>z=.str x,fc,sl,⟨_,ex,rfl⟩,fun v H1 d1 s1 dn1 q1=>?_⟩
  subst q1
  simp only [Dn] at dn1
  subst dn1
  refine ⟨rfl,S,ρ,fun z=>z=.str y,aW fc s1,Sl.fits (.same s1) sl,⟨_,ey,rfl⟩,fun v2 H2 d2 s2 NB q2=>?_⟩
  subst q2
  simp only [Dn] at NB
  subst NB
  exact ⟨x,y,rfl,rfl,hz.1,hz.2,fun l hl=>k l _ _ _ ((s1.trans s2).free hl) aS ((s1.trans s2).trans (aK hl)) (DK _) q3⟩
end
end L5
end
section
namespace L5
open PySem PySem.Spec PyProof.Rows L2 L3 L4
section
variable {X:Cx}
def aDD:F2
 | .lst a,.int n,Q=>a.length*n.toNat<=sizeLine /\ -(2 ^ 63)<=n/\n<2 ^ 63/\Q (.lst (List.replicate n.toNat a).flatten)
 | _,_,_=>False
theorem JS {K:PySem.W.Frag} {S:Addr->Prop} {H:Hp} {ds:List D} {xs:List V} (h:aR K S H ds xs):∀ n:Nat,aR K S H (List.replicate n ds).flatten (List.replicate n xs).flatten
 | 0=>aR.nil
 | n+1=>by
  rw [List.replicate_succ,List.replicate_succ,List.flatten_cons,List.flatten_cons]
  exact h.append (JS h n)
theorem rep3 {a b:Expr} {pos:Pos} {ta tb:WE} (ha:cD X a ta) (hb:cD X b tb):ED X (.BinOp a .Mult b pos) (gE aDD ta tb):=imp (IS ZE ha hb) fun σ H Q h=>by
 obtain ⟨S,ρ,Q3,fc,sl,ht,k⟩:=h
 refine ⟨S,ρ,_,fc,sl,ht,fun v H1 d s1 d1 q1=>?_⟩
 refine ⟨S,ρ,_,aW fc s1,Sl.fits (.same s1) sl,q1,fun u H2 d2 s2 d2' q2=>?_⟩
 cases d<;>cases d2<;>try exact q2.elim
 rename_i ds n
 simp only [Dn] at d1 d2'
 obtain ⟨a,xs,rfl,ha,sa,da⟩:=d1
 subst d2'
 have da':=aR.fits (.same s2) _ _ da
 obtain ⟨z1,z2,z3,q3⟩:=q2
 refine ⟨a,n,xs,rfl,rfl,s2 _ _ ha,z2,z3,by rw [<- da.len]; exact z1,fun p hp=>k p _ _ _ ((s1.trans s2).free hp) aS ((s1.trans s2).trans (aK hp)) ?_ q3⟩
 exact aR.fits ((Fits.fresh hp).trans (.same (aK hp))) _ _ (JS da' _)
theorem MF:Tells aDD repLM:=fun x y d Q e q=>by
 cases x<;>first | (cases e; done) | skip
 cases y<;>first | (cases e; done) | skip
 rename_i a n
 have e:(if a.length*n.toNat<=gX/\n.natAbs<9223372036854775808 then some (D.lst (List.replicate n.toNat a).flatten) else none)=some d:=e
 by_cases h:a.length*n.toNat<=gX/\n.natAbs<9223372036854775808
 ·rw [if_pos h] at e
  cases e
  exact ⟨by rw [sizeLine_eq]; exact h.1,by have:=h.2; omega,by have:=h.2; omega,q⟩
 ·rw [if_neg h] at e; cases e
theorem aDE {a b:Expr} {fa fb:EF} {pos:Pos} (ha:bO X a fa) (hb:bO X b fb):j6 X (.BinOp a .Mult b pos) (aE repLM fa fb):=cF (rep3 ha hb) (hV MF)
theorem DL (its:List Value):∀ m:Nat,m<=its.length->(List.range m).filterMap (fun k=>its[its.length - 1 - k]?)=its.reverse.take m
 | 0,_=>rfl
 | m+1,hm=>by
  have hg:its[its.length - 1 - m]? = some (its[its.length - 1 - m]'(by omega)):=List.getElem?_eq_getElem _
  have hr:its.reverse[m]? = some (its[its.length - 1 - m]'(by omega)):=by rw [List.getElem?_reverse (by omega)]; exact hg
  rw [List.range_succ,List.filterMap_append,DL its m (by omega),List.take_succ,hr,List.filterMap_cons,hg]
  rfl
theorem RB (its:List Value):slicePick its.toArray none none (some (-1))=its.reverse.toArray:=by
 have c:∀ n:Nat,((if (n:Int) - 1>-1 then ((n:Int) - 1 - -1 - -1 - 1) / - -1 else 0:Int)).toNat=n:=fun n=>by
  rw [show (- -1:Int)=1 from rfl,Int.ediv_one]
  split<;>omega
 have b:sliceRange (((its.toArray.size:Nat):Int) - 1) (-1) (-1)=(List.range its.length).map fun k=>its.length - 1 - k:=by
  unfold sliceRange
  simp only [show ¬ ((-1:Int)>0) by decide,if_false,c,List.size_toArray]
  refine List.map_congr_left fun k hk=>?_
  have:=List.mem_range.mp hk
  omega
 unfold slicePick
 show (List.filterMap (fun x=>its.toArray[x]?) (sliceRange (((its.toArray.size:Nat):Int) - 1) (-1) (-1))).toArray=_
 rw [b,List.filterMap_map]
 congr 1
 have:=DL its its.length (Nat.le_refl _)
 rw [List.take_of_length_le (by simp)] at this
 rw [<- this]
 congr 1
 funext k
 simp
theorem JT {K:PySem.W.Frag} {S:Addr->Prop} {H:Hp}:∀ {ds:List D} {xs:List V},aR K S H ds xs->aR K S H ds.reverse xs.reverse
 | [],xs,h=>by simp only [aR] at h; subst h; exact aR.nil
 | d::ds,xs,h=>by
  obtain ⟨v,r,rfl,h1,h2⟩:=h.bR
  rw [List.reverse_cons (a:=d),List.reverse_cons (a:=v)]
  exact (JT h2).append (aR.one h1)
theorem DM:∀ {xs:List V} {us:List Value},Vals xs us->Vals xs.reverse us.reverse
 | _,_,.nil=>.nil
 | _,_,.cons p q=>by
  simp only [List.reverse_cons]
  exact (DM q).append (.cons p .nil)
theorem aDF {e st:Expr} {f:EF} {p2 pos:Pos} (he:bO X e f) (hst:bO X st (sM (eC (.int 1)))) (hgo:∀ o r,letTemporaryGo e o r=pure ():=by intro _ _; rfl):j6 X (.Subscript e (.Slice none none (some st) p2) pos) (NL f):=by
 intro pins s σ H Q I h
 obtain ⟨S,ρ,Q3,fc,sl,⟨d,e1,q⟩,k⟩:=h
 obtain ⟨d0,e2,e3⟩:=bnd e1
 cases d0<;>first | (cases e3; done) | skip
 rename_i ds
 cases e3
 refine wpAny_Subscript_Slice_step PySem.F.slot_list_getitem.lookup (eP (he pins s σ H (fun x H1=>Same H H1/\Dn X.K S H1 (.lst ds) x) I ⟨S,ρ,fun d=>d=.lst ds,fc,sl,⟨_,e2,rfl⟩,fun v H' d s' d' q'=>by subst q'; exact ⟨s',d'⟩⟩) fun v s1 ⟨x,H1,I1,r1,s1',d1⟩=>?_) hgo
 refine wpAny_Slice ?_
 rw [evalPart_none]
 refine wpAny_pure ?_
 refine wpAny_pure ?_
 rw [evalPart_some]
 refine eP (hst pins s1 σ H1 (fun x H2=>Same H1 H2/\x=.int (-1)) I1 ⟨S,ρ,fun d=>d=.int (-1),aW fc s1',Sl.fits (.same s1') sl,⟨_,rfl,rfl⟩,fun v H' d s' d' q'=>by subst q'; simp only [Dn] at d'; exact ⟨s',d'⟩⟩) fun u s2 aDG=>?_
 obtain ⟨y,H2,I2,r2,s2',ey⟩:=aDG
 subst ey
 obtain ⟨t,rfl⟩:=r2
 simp only [Dn] at d1
 obtain ⟨a,xs,rfl,ha,sa,da⟩:=d1
 cases r1
 have hH:=s2' _ _ ha
 have I3:Inv X pins σ H2 { s2 with heap:=s2.heap.push { cls:=.type "slice",data:=.fields #[.none,.none,.int (-1) t] } }:=I2.kept (t':=s2.toks) fun b ob q=>Heap.get?_push_of_some _ q
 obtain ⟨z,its,n,r,hl,e⟩:=I3.AU hH
 refine ⟨⟨_,e,rfl⟩,?_⟩
 refine wpAny_getItem_list_slice (items:=its.toArray) ⟨_,e,rfl,n,rfl⟩ (Heap.IsSliceOf.new ..) .none .none (.int (-1) t) (by decide) ?_ (by rw [List.size_toArray,<- hl]; exact z)
 rw [RB]
 have dl:=JT (aR.fits (.same s2') _ _ da)
 exact ⟨.ref _,_,I3.ZD (t':=s2.toks) (DM r) (by rw [List.length_reverse]; exact z),rfl,k _ _ _ _ ((s1'.trans s2').free I3.fresh) aS ((s1'.trans s2').trans (aK I3.fresh)) (aR.fits ((Fits.fresh I3.fresh).trans (.same (aK I3.fresh))) _ _ dl) q⟩
def JU:V->List V->Hp->VK->Prop:=fun x vs H Q=>∃ l xs k y,x=.ref l/\vs=[.int k,y]/\H l=some (.lst xs)/\0<=k/\k<=(xs.length:Int)/\xs.length<sizeLine/\Q .non (upd H l (.lst (xs.take k.toNat++y::xs.drop k.toNat)))
theorem MG:MtR X "list.insert" JU:=by
 intro pins s σ H x vs v us Q I rx rv h
 obtain ⟨l,xs,k,y,rfl,rfl,hH,k0,k1,hz,q⟩:=h
 cases rx
 obtain ⟨u,u2,rfl,ru,ru2⟩:=vals2 rv
 obtain ⟨t,rfl⟩:=ru
 obtain ⟨z,its,n,r,hl,e⟩:=I.AU hH
 have sz:sizeLine<2 ^ 62:=by decide
 refine call_meets PySem.F.slot_list_insert ⟨_,e,rfl⟩ PySem.F.entry_list_insert (PySem.F.args_list_insert_3 _ _ _) (PySem.AutoListH.list_insert_list_int_val_1 l its.toArray n k t u2 (by rw [fitsIndex_both (by omega) (by omega)]; decide) (by rw [List.size_toArray]; omega)) ⟨e,?_⟩
 refine ⟨.non,_,I.UL (its':=its.take k.toNat++u2::its.drop k.toNat) hH e ?_ ((r.take k.toNat).append (.cons ru2 (r.drop k.toNat))) ?_,rfl,q⟩
 ·show (let kk:=if k<0 then (k+((its.toArray.size:Nat):Int)).toNat else min k.toNat its.toArray.size; (its.toArray.extract 0 kk).push u2++its.toArray.extract kk)=_
  rw [if_neg (by omega),show min k.toNat its.toArray.size=k.toNat by rw [List.size_toArray]; omega]
  simp
  exact List.take_of_length_le (by rw [List.length_drop]; exact Nat.le_refl _)
 ·rw [List.length_append,List.length_cons,List.length_take,List.length_drop]
  omega
theorem RC {K:PySem.W.Frag} {n i:Nat} {fa fb:EF} {σ:L2.St} {H:Hp} {Q:VK} (h:JG K n (wX (ER i fa fb)) σ H Q):tBM K "list" JU (TV i) (IV (lift K (wE fa)) (IV (lift K (wE fb)) Y1)) σ H Q:=by
 obtain ⟨H₀,S,w,ρ,G,Q3,hl,st,⟨p,e,q⟩,k⟩:=h
 obtain ⟨ds,e0,e⟩:=bnd e
 obtain ⟨kd,ek,e⟩:=bnd e
 obtain ⟨kk,ekk,e⟩:=bnd e
 obtain ⟨d,ed,e⟩:=bnd e
 by_cases hc:d.tJ=true/\0<=kk/\kk<=(ds.length:Int)/\ds.length<gX
 ·rw [if_pos hc] at e
  cases e
  obtain ⟨hi,k0,k1,hz⟩:=hc
  have o:=GQ e0
  obtain ⟨a,b,xs,hp,dn⟩:=st.own i _ o
  cases kd<;>first | (cases ekk; done) | skip
  cases ekk
  refine ⟨_,a,.inl ⟨rfl,xs,fS.of hp⟩,S,bQ ρ,fun d=>d=.int kk,st.PM,st.all,⟨_,ek,rfl⟩,fun v1 H1 d1 s1 d1' q1=>?_⟩
  subst q1
  simp only [Dn] at d1'
  subst d1'
  have st1:=st.same s1
  refine ⟨S,bQ ρ,fun d'=>d' = d,st1.PM,st1.all,⟨_,ed,rfl⟩,fun v2 H2 d2 s2 d2' q2=>?_⟩
  subst q2
  have st2:=st1.same s2
  obtain ⟨a',b',xs',hp',dn'⟩:=st2.own i _ o
  have dl:=dn'.len
  have nS:¬ SO S w ρ (w i):=fun ⟨_,z⟩=>z i _ o rfl
  have F:Fits K (SO S w ρ) (SO S w ρ) H2 (upd H2 (w i) (.lst (xs'.take kk.toNat++v2::xs'.drop kk.toNat))):=.upd (.inl ⟨_,hp'⟩) nS
  refine ⟨w i,xs',kk,v2,rfl,rfl,hp',k0,by rw [<- dl]; exact k1,by rw [<- dl,sizeLine_eq]; exact hz,?_⟩
  exact k w .non _ _ .non (st2.write (d':=.lst (ds.take kk.toNat++d2::ds.drop kk.toNat)) o ⟨_,aS,aR.fits F _ _ (aR.insert kk.toNat (Dn.tJ hi d2') dn')⟩) (by simp only [Dn]) q
 ·rw [if_neg hc] at e; cases e
theorem aIK {i:Nat} {x:Str} {ea eb:Expr} {p apos cpos:Pos} {fa fb:EF} (ha:bO X ea fa) (hb:bO X eb fb)
  (hN:X.N[i]? = some x:=by rfl) (hv:FE X.env.scope x:=by first | exact Or.inl rfl | exact Or.inr (Or.inl rfl) | exact Or.inr (Or.inr rfl)) (hd:(x == ("__debug__" : Str))=false:=by decide) (hcd:(x == ("__classdict__" : Str))=false:=by decide)
  (hbase:attributeBase (.Name x p) "insert" X.env (eval (.Name x p) X.env)=eval (.Name x p) X.env:=by rfl)
  (hfew:((backTo cpos (starEach [ea,eb] X.env)).all (fun x=>!x.1)&&(backToKw cpos (keywordEach [] X.env)).all (fun x=>x.1.isSome)
   && decide ([ea,eb].length+([]:List Keyword).length+(if ([]:List Keyword).isEmpty then 0 else 1)<30))=true:=by rfl)
  (hline:(apos.endLine == cpos.line)=true:=by rfl) (hs:starEach [ea,eb] X.env=(false,eval ea X.env)::starEach [eb] X.env:=by rfl) (hs2:starEach [eb] X.env=(false,eval eb X.env)::starEach [] X.env:=by rfl) (hplain:(backTo cpos (starEach [eb] X.env)).any (·.1)=false:=by rfl) :
  QM X (.Call (.Attribute (.Name x p) "insert" apos) [ea,eb] [] cpos) (ER i fa fb) :=
 imp (IZ PySem.F.plainAttrs_list PySem.F.slot_list_insert PySem.F.type_list_insert MG (AG hN hv hd hcd) (gO ha (gO hb kP hs2) hs) hbase hfew hline hs hplain) fun _ _ _ h=>RC h
end
section
variable {X:Cx}
section
variable {ls fs:List Str} {fr:List Nat} {sc:Scope} {tg iter elt:Expr} {ifs:List Expr} {pos:Pos} {i:Nat} {x:Str} {spos pos':Pos}
variable {it:AF} {g:EK} {t:TF} {e:EF}
end
end
section
variable {X:Cx}
theorem aAW {st:Stmt} {t:TS} (h:PS X.WD st t):PS X st t:=fun pins s σ H D I hw=>wpAny_mono (h pins s σ H D (I.wish fun _ _=>False) hw) (fun _ _ q=>SP.j3 q) fun _ _ z=>z.elim
theorem aDH {st:Stmt} {f:SF} (h:C6 X.WD st f):C6 X st (SE f):=qM (aAW h) fun B σ H hq=>by
 obtain ⟨H₀,S,w,ρ,G,E,hl,sT,ht,ok⟩:=hq
 refine ⟨H₀,S,w,ρ,G,{ E with ex:=fun _=>False },hl,sT,?_,⟨ok.nx,ok.rt,ok.bk,ok.ct,fun _ _ _ q=>q.elim⟩⟩
 unfold wS SE at ht
 unfold wS
 cases hf:f ρ with
 | nx ρ1=>rw [hf] at ht; exact ht
 | rt d=>rw [hf] at ht; exact ht
 | no=>rw [hf] at ht; exact ht
 | ex c=>rw [hf] at ht; exact ht.elim
end
end L5
end
section
namespace L6
open PySem PySem.Spec PyProof.Rows
noncomputable def Up (l:List Nat):Prop:=l.Pairwise (·<·)
theorem RD (xs:Array Nat) (j:Nat) (up:Up xs.toList):∀ f lo hi,hi - lo<=f->lo<=hi->hi<=xs.size->(∀ i,i<lo->xs.getD i j<j)->(∀ i,hi<=i->i<xs.size->j<=xs.getD i j) ->
  SetTable.below.go xs j f lo hi<=xs.size/\(∀ i,i<SetTable.below.go xs j f lo hi->xs.getD i j<j) /\ ∀ i,SetTable.below.go xs j f lo hi<=i->i<xs.size->j<=xs.getD i j:=by
 have mono:∀ i k,i<=k->k<xs.size->xs.getD i j<=xs.getD k j:=fun i k hik hk=>by
  by_cases e:i=k
  ·subst e; exact Nat.le_refl _
  ·have h1:i<xs.size:=by omega
   have:=List.pairwise_iff_getElem.mp up i k (by simpa using h1) (by simpa using hk) (by omega)
   simp only [Array.getD,h1,hk,dif_pos]
   simpa using Nat.le_of_lt this
 intro f
 induction f with
 | zero =>
  intro lo hi h1 h2 h3 h4 h5
  have:lo=hi:=by omega
  subst this
  exact ⟨h3,h4,h5⟩
 | succ f ih =>
  intro lo hi h1 h2 h3 h4 h5
  unfold SetTable.below.go
  by_cases hl:lo<hi
  ·rw [if_pos hl]
   dsimp only
   by_cases hm:xs.getD ((lo+hi) / 2) j<j
   ·rw [if_pos hm]
    refine ih _ _ (by omega) (by omega) h3 (fun i hi'=>?_) h5
    exact Nat.lt_of_le_of_lt (mono i ((lo+hi) / 2) (by omega) (by omega)) hm
   ·rw [if_neg hm]
    refine ih _ _ (by omega) (by omega) (by omega) h4 fun i hi' hs=>?_
    exact Nat.le_trans (Nat.not_lt.mp hm) (mono _ i hi' hs)
  ·rw [if_neg hl]
   have:lo=hi:=by omega
   subst this
   exact ⟨h3,h4,h5⟩
theorem below_at {xs:Array Nat} (up:Up xs.toList) (j:Nat):SetTable.below xs j<=xs.size/\(∀ i,i<SetTable.below xs j->xs.getD i j<j) /\ ∀ i,SetTable.below xs j<=i->i<xs.size->j<=xs.getD i j :=
 RD xs j up _ _ _ (by omega) (by omega) (Nat.le_refl _) (fun i h=>by omega) fun i h1 h2=>by omega
theorem GV {xs:Array Nat} (up:Up xs.toList) {k p:Nat} (hk:xs[k]? = some p):SetTable.below xs (p+1)=k+1:=by
 obtain ⟨h1,h2,h3⟩:=below_at up (p+1)
 have hs:k<xs.size:=(Array.getElem?_eq_some_iff.mp hk).1
 have ek:xs.getD k (p+1)=p:=by rw [Array.getD_eq_getD_getElem?,hk]; rfl
 have a:¬ SetTable.below xs (p+1)<=k:=fun h=>by
  have:=h3 k h hs
  omega
 by_cases hn:k+1<SetTable.below xs (p+1)
 ·have h4:=h2 (k+1) hn
  have hs2:k+1<xs.size:=by omega
  have:=List.pairwise_iff_getElem.mp up k (k+1) (by simpa using hs) (by simpa using hs2) (by omega)
  have e2:xs.getD (k+1) (p+1)=xs[k+1]:=by simp [Array.getD,hs2]
  have e3:xs[k]=p:=by have:=Array.getElem?_eq_some_iff.mp hk; exact this.2
  simp only [Array.getElem_toList] at this
  omega
 ·omega
theorem DN {xs:Array Nat} (up:Up xs.toList):SetTable.below xs 0=0:=by
 obtain ⟨h1,h2,h3⟩:=below_at up 0
 by_cases h:SetTable.below xs 0=0
 ·exact h
 ·have:=h2 0 (by omega)
  omega
theorem xE {α:Type} (xs:Array α) (p:Nat) (x:α):(SetTable.insertAt xs p x).toList=xs.toList.take p++x::xs.toList.drop p:=by
 unfold SetTable.insertAt
 simp [Array.toList_extract,List.extract_eq_take_drop]
 refine List.take_of_length_le ?_; simp
theorem aAX {xs:Array Nat} (up:Up xs.toList) {j:Nat} (hj:xs[SetTable.below xs j]?≠some j):Up (SetTable.insertAt xs (SetTable.below xs j) j).toList:=by
 obtain ⟨h1,h2,h3⟩:=below_at up j
 rw [xE]
 unfold Up at *
 rw [List.pairwise_append]
 refine ⟨up.sublist (List.take_sublist ..),?_,fun a ha b hb=>?_⟩
 ·rw [List.pairwise_cons]
  refine ⟨fun b hb=>?_,up.sublist (List.drop_sublist ..)⟩
  obtain ⟨i,hi,e'⟩:=List.getElem_of_mem hb; have e:=e'
  rw [List.getElem_drop] at e
  have hs:SetTable.below xs j+i<xs.size:=by simp at hi; omega
  have h4:=h3 (SetTable.below xs j+i) (by omega) hs
  have e2:xs.getD (SetTable.below xs j+i) j=b:=by simp only [Array.getD,hs,dif_pos]; simpa using e
  rw [e2] at h4
  by_cases e3:b=j
  ·exfalso
   subst e3
   by_cases hi0:i=0
   ·subst hi0
    apply hj
    rw [Array.getElem?_eq_getElem (by simpa using hs)]
    simpa using e
   ·have hs0:SetTable.below xs b<xs.size:=by omega
    have q:=List.pairwise_iff_getElem.mp up (SetTable.below xs b) (SetTable.below xs b+i) (by simpa using hs0) (by simpa using hs) (by omega)
    have h5:=h3 (SetTable.below xs b) (Nat.le_refl _) hs0
    have e4:xs.getD (SetTable.below xs b) b=xs[SetTable.below xs b]:=by simp [Array.getD,hs0]
    rw [e] at q
    simp only [Array.getElem_toList] at q
    omega
  ·omega
 ·obtain ⟨i,hi,e⟩:=List.getElem_of_mem ha
  have hi2:i<SetTable.below xs j:=by simp at hi; omega
  have hs:i<xs.size:=by omega
  have h4:=h2 i hi2
  have e2:xs.getD i j=a:=by simp only [Array.getD,hs,dif_pos]; rw [<- e]; simp
  rw [e2] at h4
  rcases List.mem_cons.1 hb with hb | hb
  ·omega
  ·obtain ⟨k,hk,e5⟩:=List.getElem_of_mem hb
   rw [List.getElem_drop] at e5
   have hs2:SetTable.below xs j+k<xs.size:=by simp at hk; omega
   have q:=List.pairwise_iff_getElem.mp up i (SetTable.below xs j+k) (by simpa using hs) (by simpa using hs2) (by omega)
   rw [e5] at q
   have e6:xs.toList[i]=a:=by rw [<- e]; simp
   rw [e6] at q
   exact q
theorem RE (n:Nat):Up (Array.range n).toList:=by
 unfold Up
 rw [Array.toList_range]
 exact List.pairwise_lt_range
structure ND (led:Bool) (t:SetTable) (n:Nat):Prop where
 fit:t.fits n=true
 led:t.led=led
 no:t.dummies=#[]
 up:Up t.place.toList
theorem j8 {led:Bool} {t:SetTable} (n:Nat) (h:t.led=led):ND led (t.standIn n) n:=by
 refine ⟨?_,h,rfl,RE n⟩
 unfold SetTable.fits SetTable.standIn SetTable.fill
 simp
 omega
theorem DO {t:SetTable} {h:Int} (hn:t.dummies=#[]) {f:Nat->Int}:∀ (k:Nat) (p:SetTable.Probe) {j:Nat} {d:Option Nat},p.dummy=none->SetTable.probe.go t f h k p=some (.empty j d)->d=none/\t.place[SetTable.below t.place j]?≠some j:=by
 intro k
 induction k with
 | zero=>intro p j d _ e; unfold SetTable.probe.go at e; cases e
 | succ k ih =>
  intro p j d hd e
  unfold SetTable.probe.go at e
  have adv:(t.advance p).dummy=none:=by unfold SetTable.advance; split<;>exact hd
  cases q:t.slot p.j with
  | empty =>
   rw [q] at e
   injection e with e
   injection e with e1 e2
   subst e1
   refine ⟨by rw [<- e2]; exact hd,fun z=>?_⟩
   unfold SetTable.slot at q
   dsimp only at q
   rw [z] at q
   simp at q
  | dummy =>
   exfalso
   unfold SetTable.slot at q
   dsimp only at q
   split at q
   ·cases q
   ·have:SetTable.has t.dummies p.j=false:=by rw [hn]; unfold SetTable.has; simp
    rw [this] at q
    cases q
  | live i =>
   rw [q] at e
   dsimp only at e
   split at e
   ·cases e
   ·exact ih _ adv e
theorem ND.layNew {led:Bool} {t:SetTable} {es:Array (Int×Value)} (h:ND led t es.size) (k:Int) (x:Value):ND led (layNew t es k x).2.1 (layNew t es k x).1.size:=by
 unfold PySem.layNew
 cases q:t.freeSlot k with
 | none =>
  dsimp only
  rw [Array.size_push]
  exact j8 _ h.led
 | some r =>
  obtain ⟨slot,wd⟩:=r
  dsimp only
  unfold SetTable.freeSlot at q
  have hp:t.place[SetTable.below t.place slot]?≠some slot:=by
   unfold SetTable.probe at q
   split at q
   ·rename_i j d e
    obtain ⟨e1,e2⟩:=DO h.no _ _ rfl e
    subst e1
    cases q
    exact e2
   ·cases q
  have hd:SetTable.has t.dummies slot=false:=by rw [h.no]; simp [SetTable.has]
  have ep:t.put slot=({ t with place:=SetTable.insertAt t.place (SetTable.below t.place slot) slot },SetTable.below t.place slot):=by
   unfold SetTable.put
   rw [hd]
   rfl
  rw [ep]
  dsimp only
  unfold SetTable.orStandIn
  split
  ·rename_i hf
   exact ⟨hf,h.led,h.no,aAX h.up hp⟩
  ·exact j8 _ h.led
theorem pC {β:Type} (f:Nat->Option β):∀ l:List Nat,Up l->Up ((l.filterMap fun j=>(f j).map (j,·)).map (·.1))
 | [],_=>by simp [Up]
 | a::l,h=>by
  have h':=List.pairwise_cons.1 h
  have ih:=pC f l h'.2
  rw [List.filterMap_cons]
  cases q:f a with
  | none=>exact ih
  | some b =>
   dsimp only [Option.map_some]
   rw [List.map_cons]
   refine List.pairwise_cons.mpr ⟨fun c hc=>?_,ih⟩
   obtain ⟨p,hp,e⟩:=List.mem_map.mp hc
   obtain ⟨j,hj,e2⟩:=List.mem_filterMap.mp hp
   cases q2:f j with
   | none=>rw [q2] at e2; cases e2
   | some b2 =>
    rw [q2] at e2
    cases e2
    rw [<- e]
    exact h'.1 j hj
theorem ND.aDI {led:Bool} {t:SetTable} {es:Array (Int×Value)} (h:ND led t es.size) (wanted:Nat):ND led (relayAll t es wanted).2.1 (relayAll t es wanted).1.size:=by
 unfold relayAll
 cases q:t.relaid (es.map (·.1)) wanted with
 | none=>exact j8 _ h.led
 | some r =>
  obtain ⟨t',order⟩:=r
  dsimp only
  split
  ·rename_i hc
   rw [Bool.and_eq_true] at hc
   unfold SetTable.relaid SetTable.laid at q
   cases q2:SetTable.layClean (SetTable.sizeAbove wanted - 1) (es.map (·.1)) with
   | none=>rw [q2] at q; cases q
   | some owner =>
    rw [q2] at q
    cases q
    refine ⟨hc.2,h.led,rfl,?_⟩
    dsimp only
    exact pC _ _ List.pairwise_lt_range
  ·exact j8 _ h.led
theorem RG (led:Bool):ND led (SetTable.fresh 0 0 led) 0:=⟨by rfl,rfl,rfl,List.Pairwise.nil⟩
noncomputable def nR (e:Int×Value):Int:=match e.2 with
 | .int m _=>m
 | _=>0
noncomputable def DP (e:Int×Value):Prop:=∃ m t,e=(hashInt m,Value.int m t)
noncomputable def l0 (led:Bool) (o:Obj) (ns:List Int):Prop:=∃ es ep t,o.ExactSet/\o.data=.set es ep t/\(∀ e∈es.toList,DP e)/\(es.toList.map nR).Perm ns/\ND led t es.size/\es.size<scanBound
noncomputable def GW (ns:List Int) (k:Int):List Int:=if k∈ns then ns else ns++[k]
theorem RH (prog:Program) (w:World) {l:List (Int×Value)} (h:∀ e∈l,DP e):ElemsOf (intKind prog w) l:=fun e he=>by
 obtain ⟨m,t,rfl⟩:=h e he
 exact ⟨⟨m,intKind_is prog w m t,rfl⟩,rfl⟩
theorem RI (prog:Program) (w:World) {e:Int×Value} (h:DP e) (k:Int):(intKind prog w).is k e.2=decide (k=nR e):=by
 obtain ⟨m,t,rfl⟩:=h
 exact KeyKind.is_eq_decide (intKind_is prog w m t) k
section
variable {prog:Program} {w:World} {A:Around} {E:Value->Shared->Prop} {s:Shared}
theorem stored {a:Addr} {o:Obj} {es es':Array (Int×Value)} {ep:Nat} {t t':SetTable} (ho:s.heap.get? a=some o) (hd:o.data=.set es ep t) :
  (s.heap.update a (Obj.putSet es' t')).get? a=some { o with data:=.set es' (ep+1) t' }:=by
 have q:=Heap.get?_update_self (Obj.putSet es' t') ho (by rw [putSet_of es' t' hd]; rfl)
 rwa [putSet_of es' t' hd] at q
theorem add_int {a:Addr} {o:Obj} {ns:List Int} {k:Int} {tk:Tok} {led:Bool} {Q:Bool->Shared->Prop} (ho:s.heap.get? a=some o) (hi:l0 led o ns) (hb:ns.length+1<scanBound)
  (h:∀ h' o' b,Heap.SameBut a s.heap h'->h'.get? a=some o'->l0 led o' (GW ns k)->Q b { s with heap:=h',toks:=s.toks+1 }):wpAny (model prog w) A (setAdd a (.int k tk)) Q E s:=by
 obtain ⟨es,ep,t,hx,hd,hE,hp,hT,hs⟩:=hi
 have hel:=RH prog w hE
 have calm:∀ (b:Bool) (s1:Shared) (Q1:Unit->Shared->Prop),Q1 () s1->wpAny (model prog w) A (match b with | true=>rule "set.scan.the-table-gave-way" | false=>pure ()) Q1 E s1:=fun b s1 Q1 q=>by
  cases b
  ·exact wpAny_pure q
  ·exact wpAny_rule q
 have hk:=intKind_is prog w k tk
 unfold setAdd
 refine wpAny_holding (wpAny_bind ((intKind prog w).pyHash hk ?_))
 unfold setAddHashed setAddHashedIn setAddByScan
 refine wpAny_holding (wpAny_bind (wpAny_setState_of (s:={ s with toks:=s.toks+1 }) ho hd hT.fit ?_))
 dsimp only
 rw [if_pos (byScan_of (x:=.int k tk) rfl hs hel)]
 refine wpAny_bind (wpAny_bind (wpAny_rule (wpAny_bind (wpAny_setScan_of (s:={ s with toks:=s.toks+1 }) hk ho hd hT.fit hel ?_))))
 cases hf:es.toList.findIdx? (fun e=>(intKind prog w).is k e.2) with
 | some j =>
  obtain ⟨hj,e,_⟩:=List.findIdx?_eq_some_iff_getElem.1 hf
  have hm:=List.getElem_mem hj
  rw [RI prog w (hE _ hm),decide_eq_true_eq] at e
  have kn:k∈ns:=hp.mem_iff.1 (e▸List.mem_map_of_mem hm)
  apply wpAny_pure; apply wpAny_pure
  refine h s.heap o false (Heap.SameBut.refl ..) ho ?_
  rw [GW,if_pos kn]
  exact ⟨es,ep,t,hx,hd,hE,hp,hT,hs⟩
 | none =>
  have kn:k∉ns:=fun z=>by
   obtain ⟨e,he,ee⟩:=List.mem_map.1 (hp.mem_iff.2 z)
   have q:=List.findIdx?_eq_none_iff.1 hf e he
   rw [RI prog w (hE e he),ee] at q
   simp at q
  dsimp only
  have p1:=layNew_perm t es (hashInt k) (.int k tk)
  have t1:=hT.layNew (hashInt k) (.int k tk)
  show wpAny _ _ _ _ _ _
  have eh:(intKind prog w).hash k=hashInt k:=rfl
  rw [eh]
  generalize layNew t es (hashInt k) (.int k tk)=L at p1 t1 ⊢
  obtain ⟨es1,tb,wd,gv⟩:=L
  rw [Array.toList_push] at p1
  dsimp only at p1 t1 ⊢
  have e1:∀ e∈es1.toList,DP e:=fun e he=>by
   rcases List.mem_append.1 (p1.mem_iff.1 he) with z | z
   ·exact hE e z
   ·exact ⟨k,tk,List.mem_singleton.1 z⟩
  have n1:(es1.toList.map nR).Perm (ns++[k]):=(p1.map nR).trans (by rw [List.map_append]; exact hp.append_right _)
  have l1:es1.size=ns.length+1:=by have q:=n1.length_eq; simpa using q
  have z1:es1.size<scanBound:=by omega
  have fin:∀ h' o',Heap.SameBut a s.heap h'->h'.get? a=some o'->l0 led o' (ns++[k])->Q true { s with heap:=h',toks:=s.toks+1 }:=fun h' o' q1 q2 q3=>h h' o' true q1 q2 (by rw [GW,if_neg kn]; exact q3)
  have tail:∀ tb2:SetTable,ND led tb2 es1.size->wpAny (model prog w) A (do
    storeSet a es1 tb2
    if (!wd&&tb2.tooFull)=true then do
      (match (relayAll tb2 es1 (SetTable.grown es1.size)).2.2 with | true=>rule "set.scan.the-table-gave-way" | false=>pure ())
      storeSet a (relayAll tb2 es1 (SetTable.grown es1.size)).1 (relayAll tb2 es1 (SetTable.grown es1.size)).2.1
      pure (some true)
     else pure (some true)) (fun r s'=>wpAny (model prog w) A (match r with | some added=>pure added | none=>setAddHashedIn a (.int k tk) (hashInt k) 99999) Q E s') E { s with toks:=s.toks+1 }:=fun tb2 t2=>by
   refine wpAny_bind (wpAny_storeSet_of (s:={ s with toks:=s.toks+1 }) ho hd ?_ (fits_of_scanBound z1))
   have g1:=stored (es':=es1) (t':=tb2) ho hd
   have i1:l0 led { o with data:=.set es1 (ep+1) tb2 } (ns++[k]):=⟨es1,ep+1,tb2,hx,rfl,e1,n1,t2,z1⟩
   split
   ·have p2:=relayAll_perm tb2 es1 (SetTable.grown es1.size)
    have t3:=t2.aDI (SetTable.grown es1.size)
    generalize relayAll tb2 es1 (SetTable.grown es1.size)=L at p2 t3 ⊢
    obtain ⟨es2,tc,gv2⟩:=L
    dsimp only at p2 t3 ⊢
    have l2:es2.size=es1.size:=by have q:=p2.length_eq; simpa using q
    refine wpAny_bind (calm gv2 _ _ (wpAny_bind (wpAny_storeSet_of (s:={ s with heap:=s.heap.update a (Obj.putSet es1 tb2),toks:=s.toks+1 }) g1 rfl (wpAny_pure (wpAny_pure ?_)) (fits_of_scanBound (by omega)))))
    exact fin _ _ ((Heap.SameBut.update ..).trans (Heap.SameBut.update ..)) (stored (s:={ s with heap:=s.heap.update a (Obj.putSet es1 tb2) }) g1 rfl) ⟨es2,_,tc,hx,rfl,fun e he=>e1 e (p2.mem_iff.1 he),(p2.map nR).trans n1,t3,by omega⟩
   ·exact wpAny_pure (wpAny_pure (fin _ _ (Heap.SameBut.update ..) g1 i1))
  refine wpAny_bind (calm gv _ _ ?_)
  split
  ·apply wpAny_bind; apply wpAny_pure
   exact tail _ t1
  ·apply wpAny_bind; apply wpAny_pure
   exact tail _ t1
end
noncomputable def fY:List Int->List Int->List Int
 | ns,[]=>ns
 | ns,k::r=>fY (GW ns k) r
noncomputable def dO (w:World):Bool:=!(w.params.followText "set-order")
noncomputable def iP (led:Bool):Obj:={ cls:=.type "set",dict:=none,data:=.set #[] 0 (.fresh 0 0 led) }
theorem MH (led:Bool):l0 led (iP led) []:=⟨#[],0,.fresh 0 0 led,⟨rfl,rfl,rfl⟩,rfl,fun e he=>by simp at he,List.Perm.nil,RG led,by decide⟩
theorem DQ (ns:List Int) (k:Int):(GW ns k).length<=ns.length+1:=by
 unfold GW
 split
 ·omega
 ·simp
section
variable {prog:Program} {w:World} {A:Around} {E:Value->Shared->Prop} {s:Shared}
theorem RJ {I S t:Addr} {items:Array Value} {ns:List Int} {led:Bool} {R:Result->Shared->Prop} (hh:A.handled=none) (hi:IntsAre items.toList ns) (hI:t≠I) (hSI:S≠I) (hSt:S≠t) (hb:ns.length+1<scanBound) :
  ∀ (r:List Int) (i:Nat) (s:Shared) (ms:List Int) (o:Obj),r=ns.drop i->i<=ns.length->s.heap.IsTupleIter I t i->s.heap.IsTuple t items->s.heap.get? S=some o->l0 led o ms->ms.length<=i ->
   (∀ h' tk o',(∀ b u,b≠S->b≠I->s.heap.get? b=some u->h'.get? b=some u)->h'.get? S=some o'->l0 led o' (fY ms r)->R (.ok (.ret .none)) { s with heap:=h',toks:=tk })->codeAny (model prog w) A (.builtin "set.update.loop" ⟨[.ref S,.ref I],[]⟩) R s:=by
 have W:=Walks.tuple (prog:=prog) (w:=w) (A:=A.in1) hh I t hI items
 have hn:items.size=ns.length:=by have q:=IntsAre.length hi; simpa using q
 intro r
 induction r with
 | nil =>
  intro i s ms o er hil it tp ho hS _ fin
  have e:i=items.size:=by
   have q:=congrArg List.length er
   rw [List.length_drop,List.length_nil] at q
   omega
  subst e
  apply codeAny_builtin F.entry_set_update_loop
  rw [Around.under_plainId F.plain_set_update_loop]
  unfold Builtin.«set.update.loop»
  refine wpAny_bind (W.done s _ _ ⟨it,tp⟩ fun h' tk keep=>wpAny_pure ?_)
  exact fin h' tk o (fun b u h1 h2 e=>keep b u (by simpa using h2) e) (keep S o (by simpa using hSI) ho) hS
 | cons k r ih =>
  intro i s ms o er hil it tp ho hS hm fin
  have hlt:i<ns.length:=by
   have q:=congrArg List.length er
   rw [List.length_drop,List.length_cons] at q
   omega
  have ek:ns[i]? = some k:=by
   have q:(ns.drop i)[0]? = some k:=by rw [<- er]; rfl
   rwa [List.getElem?_drop,Nat.add_zero] at q
  apply codeAny_builtin F.entry_set_update_loop
  rw [Around.under_plainId F.plain_set_update_loop]
  unfold Builtin.«set.update.loop»
  refine wpAny_bind (W.item i s _ _ (by omega) ⟨it,tp⟩ fun v h1 tk hv st keep=>?_)
  obtain ⟨t1,rfl⟩:=IntsAre.int_at hi i v (by rw [Array.getElem?_toList]; exact hv)
  have e2:ns.getD i 0=k:=by rw [List.getD_eq_getElem?_getD,ek]; rfl
  rw [e2]
  refine wpAny_bind (wpAny_holding (add_int (s:={ s with heap:=h1,toks:=tk }) (keep S o (by simpa using hSI) ho) hS (by omega) fun h2 o2 _ sb g2 i2=>wpAny_pure ⟨plainId_quiet F.plain_set_update_loop _,?_⟩))
  have it2:h2.IsTupleIter I t (i+1):=st.1.at fun o e=>by rw [sb.2 I (Ne.symm hSI)]; exact e
  have tp2:h2.IsTuple t items:=st.2.at fun o e=>by rw [sb.2 t (Ne.symm hSt)]; exact e
  refine ih (i+1) { s with heap:=h2,toks:=tk+1 } _ o2 ?_ (by omega) it2 tp2 g2 i2 (Nat.le_trans (DQ ms k) (by omega)) fun h3 tk3 o3 k3 g3 i3=>fin h3 tk3 o3 (fun b u n1 n2 e=>k3 b u n1 n2 ?_) g3 i3
  ·have q:=congrArg List.tail er
   rw [List.tail_drop] at q
   exact q
  ·show h2.get? b=some u
   rw [sb.2 b n1]
   exact keep b u (by simpa using n2) e
theorem VN (x:Value):MeetsIn prog w (Builtin.«set.__new__» ⟨[.type "set",x],[]⟩) (fun _ R s=>R (.ok (.ret (.ref s.heap.objs.size))) { s with heap:=s.heap.push (iP (dO w)) }):=by
 refine .of_wp fun A R s h=>?_
 have hs:=sub_set_self
 unfold Builtin.«set.__new__» Builtin.Frozenset.newClass newSet setsByText
 wp_walk
 apply wpAny_askSetting; apply wpAny_pure
 dsimp only
 simp only [newObj]
 exact wpAny_bind (wpAny_alloc (wpAny_pure (wpAny_pure ⟨_,rfl,h⟩)))
theorem RK {S t:Addr} {items:Array Value} {ns:List Int} {led:Bool} (hi:IntsAre items.toList ns) (hSt:S≠t) (hb:ns.length+1<scanBound) :
  MeetsIn prog w (Builtin.«set.__init__» ⟨[.ref S,.ref t],[]⟩) (fun A R s=>A.handled=none/\s.heap.IsTuple t items/\s.heap.get? S=some (iP led) /\
   ∀ h' tk o',(∀ b u,b≠S->b<s.heap.objs.size->s.heap.get? b=some u->h'.get? b=some u)->h'.get? S=some o'->l0 led o' (fY [] ns)->R (.ok (.ret .none)) { s with heap:=h',toks:=tk }):=by
 refine .of_wp fun A R s h=>?_
 obtain ⟨hh,tp,hS,h⟩:=h
 have T1:s.TypeIs (.ref S) "set" := ⟨_,hS,rfl⟩
 have T2:=tp.typeIs
 have s1:=F.sub_tuple_set
 have s2:=F.sub_tuple_frozenset
 obtain ⟨ot,hot,hct,nt,hdt⟩:=id tp
 unfold Builtin.«set.__init__»
 unfold noKeywords Builtin.Frozenset.updateFrom
 generalize hP:pyIter=P
 wp_walk
 subst hP
 have lS:S<s.heap.objs.size:=Heap.lt_size hS
 have lt:t<s.heap.objs.size:=Heap.lt_size hot
 refine wpAny_pyIter_tuple tp (wpAny_bind (wpAny_runValue ?_))
 refine RJ (A:=A.in1) (t:=t) (S:=S) hh hi (Nat.ne_of_lt lt) (Nat.ne_of_lt lS) hSt hb ns 0 _ [] (iP led) rfl (Nat.zero_le _) ⟨_,Heap.get?_push_size _ rfl,rfl,rfl⟩ (tp.push _) (Heap.get?_push_of_some _ hS) (MH led) (Nat.le_refl _) fun h' tk o' keep g i=>?_
 exact wpAny_pure (wpAny_pure ⟨_,rfl,h h' tk o' (fun b u n1 l e=>keep b u n1 (Nat.ne_of_lt l) (Heap.get?_push_of_some _ e)) g i⟩)
theorem RL {t:Addr} {items:Array Value} {ns:List Int} {Q:Value->Shared->Prop} (hh:A.handled=none) (hi:IntsAre items.toList ns) (tp:s.heap.IsTuple t items) (hb:ns.length+1<scanBound)
  (h:∀ h' tk o',(∀ b u,s.heap.get? b=some u->h'.get? b=some u)->h'.get? s.heap.objs.size=some o'->l0 (dO w) o' (fY [] ns)->Q (.ref s.heap.objs.size) { s with heap:=h',toks:=tk }) :
  wpAny (model prog w) A (call (.type "set") [.ref t]) Q E s:=by
 obtain ⟨c,tl,m1⟩:=F.called_set.mro
 have m2:=F.called_set.made
 have m3:=F.called_set.sub
 have m4:=F.called_set.notType
 have m5:=F.called_set.canCreate
 have m6:=F.typeCall_set_1 (.ref t)
 obtain ⟨ot,hot,_⟩:=id tp
 have lt:t<s.heap.objs.size:=Heap.lt_size hot
 refine wpAny_call (codeAny_of_tree (wpAny_pure ⟨Code.quiet_builtin _ (by decide +kernel),codeAny_builtin F.entry_type_call ?_⟩))
 rw [Around.under_plain (weight_type_call_type ..) (units_type_call_type ..)]
 wp_walk
 have c1:codeAny (model prog w) A.in1 (.call (.builtin "set.__new__") ⟨[.type "set",.ref t],[]⟩) (fun r s1=>r=.ok (.ret (.ref s.heap.objs.size))/\s1={ s with heap:=s.heap.push (iP (dO w)) }) s :=
  codeAny_call_builtin F.plain_set_new F.entry_set_new (wpAny_of_eq (F.newCall_set_1 _) (VN (.ref t) A.in1 (fun r s1=>r=.ok (.ret (.ref s.heap.objs.size))/\s1={ s with heap:=s.heap.push (iP (dO w)) }) s ⟨rfl,rfl⟩))
 refine codeAny_mono c1 fun r s1 hr=>?_
 obtain ⟨rfl,rfl⟩:=hr
 dsimp only
 have g1:(s.heap.push (iP (dO w))).get? s.heap.objs.size=some (iP (dO w)):=Heap.get?_push_size _ rfl
 have T1:Shared.TypeIs { s with heap:=s.heap.push (iP (dO w)) } (.ref s.heap.objs.size) "set" := ⟨_,g1,rfl⟩
 have m7:=F.called_set.init.lookup
 have m8:=F.called_set.init.bind (.ref s.heap.objs.size)
 wp_walk
 have c2:codeAny (model prog w) A.in1 (.call (.builtin "set.__init__") ⟨[.ref s.heap.objs.size,.ref t],[]⟩) (fun r s2=>∃ h' tk o',r=.ok (.ret .none)/\s2={ s with heap:=h',toks:=tk } /\
   (∀ b u,s.heap.get? b=some u->h'.get? b=some u)/\h'.get? s.heap.objs.size=some o'/\l0 (dO w) o' (fY [] ns)) { s with heap:=s.heap.push (iP (dO w)) } :=
  codeAny_call_builtin F.called_set.init.plain F.entry_set_init (check_set_init_1 T1 (RK (led:=dO w) hi (Nat.ne_of_gt lt) hb A.in1 (fun r s2=>∃ h' tk o',r=.ok (.ret .none)/\s2={ s with heap:=h',toks:=tk } /\
   (∀ b u,s.heap.get? b=some u->h'.get? b=some u)/\h'.get? s.heap.objs.size=some o'/\l0 (dO w) o' (fY [] ns)) { s with heap:=s.heap.push (iP (dO w)) } ⟨hh,tp.push _,g1,fun h' tk o' keep g i =>
    ⟨h',tk,o',rfl,rfl,fun b u e=>keep b u (Nat.ne_of_lt (Heap.lt_size e)) (by rw [Heap.size_push]; exact Nat.lt_succ_of_lt (Heap.lt_size e)) (Heap.get?_push_of_some _ e),g,i⟩⟩))
 refine codeAny_mono c2 fun r s2 hr=>?_
 obtain ⟨h',tk,o',rfl,rfl,keep,g,i⟩:=hr
 refine wpAny_pure ?_
 dsimp only
 rw [if_neg (by decide)]
 exact wpAny_pure (h h' tk o' keep g i)
end
namespace Si
theorem slot_next:Slot "set_iterator" "__next__" "set_iterator.__next__" := Slot.of (owner := "set_iterator") (n := "__next__") (by rw [typeLookup_type,builtinLookup_eq_fast]; kernel_rfl) (by decide +kernel) (by decide +kernel) (by decide +kernel) (Or.inl (by decide +kernel)) (by rw [isSubtype_type]; kernel_rfl)
theorem yT:Slot "set_iterator" "__iter__" "set_iterator.__iter__" := Slot.of (owner := "set_iterator") (n := "__iter__") (by rw [typeLookup_type,builtinLookup_eq_fast]; kernel_rfl) (by decide +kernel) (by decide +kernel) (by decide +kernel) (Or.inl (by decide +kernel)) (by rw [isSubtype_type]; kernel_rfl)
theorem entry_next:entryFor table "set_iterator.__next__" = some Builtin.«set_iterator.__next__»:=entryFor_of_tree (by kernel_rfl)
theorem args_next (a:Value):argsOk "set_iterator.__next__" ⟨[a],[]⟩:=by unfold argsOk; kernel_rfl
theorem MI (a:Value):argsOk "set_iterator.__iter__" ⟨[a],[]⟩:=by unfold argsOk; kernel_rfl
theorem GX:entryFor table "set_iterator.__iter__" = some Builtin.«dict_keyiterator.__iter__» :=
 entryFor_alias (id' := "dict_keyiterator.__iter__") (by kernel_rfl) (by decide +kernel) (by decide +kernel) (by kernel_rfl)
theorem vF:entryFor table "set.__iter__" = some Builtin.«frozenset.__iter__» :=
 entryFor_alias (id' := "frozenset.__iter__") (by kernel_rfl) (by decide +kernel) (by decide +kernel) (by kernel_rfl)
end Si
noncomputable def nU (h:Heap) (I S:Addr) (f:Value) (i n ep:Nat):Prop:=∃ o,h.get? I=some o/\o.cls=.type "set_iterator" /\ o.data=.fields #[f,rawInt i,.ref S,rawInt n,rawInt ep]
section
variable {prog:Program} {w:World} {A:Around} {E:Value->Shared->Prop} {s:Shared}
theorem nU.typeIs {I S:Addr} {f:Value} {i n ep:Nat} (x:nU s.heap I S f i n ep):s.TypeIs (.ref I) "set_iterator" := let ⟨o,ho,hc,_⟩:=x; ⟨o,ho,hc⟩
theorem lQ {b:Bool} {Q:Bool->Shared->Prop} (hb:w.params.followText "set-order" = b) (h:Q b s):wpAny (model prog w) A setsByText Q E s:=by
 unfold setsByText
 refine wpAny_bind (wpAny_askSetting (wpAny_pure ?_))
 rw [<- hb] at h
 exact h
theorem mJ {S:Addr} {o:Obj} {es:Array (Int×Value)} {ep i q:Nat} {t:SetTable} {Q:Option (Value×Nat)->Shared->Prop} (hw:dO w=true) (ho:s.heap.get? S=some o) (hd:o.data=.set es ep t) (hT:ND true t es.size)
  (hp:¬ (!t.plain&&es.size>1)=true) (hq:SetTable.below t.place q=i) (h:Q (match es[i]?,t.place[i]? with | some (_,x),some j=>some (x,j+1) | _,_=>none) s) (k:Nat):wpAny (model prog w) A (setNext S q k ep) Q E s:=by
 have hb:w.params.followText "set-order" = false:=by unfold dO at hw; simpa using hw
 unfold setNext
 refine wpAny_bind (wpAny_setState_of ho hd hT.fit ?_)
 dsimp only
 refine wpAny_bind (lQ hb ?_)
 rw [if_neg (by decide)]
 split
 ·rename_i z
  exact absurd z hp
 refine wpAny_bind ?_
 show wpAny _ _ (if (!t.led && !es.isEmpty)=true then unsupported "set:maker-not-led" else pure ()) _ _ _
 rw [hT.led,if_neg (by simp)]
 refine wpAny_pure ?_
 rw [hq]
 exact wpAny_pure h
theorem DR {I S:Addr} {o:Obj} {es:Array (Int×Value)} {ep i q:Nat} {t:SetTable} {v:Value} {p:Nat} {Q:Option Value->Shared->Prop} (ho:s.heap.get? S=some o) (hd:o.data=.set es ep t) (hf:t.fits es.size=true) (it:nU s.heap I S (rawInt q) i es.size ep)
  (hN:∀ (Q1:Option (Value×Nat)->Shared->Prop) (E1:Value->Shared->Prop),Q1 (some (v,p)) s->wpAny (model prog w) A.in1 (setNext S q i ep) Q1 E1 s)
  (hQ:∀ h',nU h' I S (rawInt p) (i+1) es.size ep->Heap.SameBut I s.heap h'->Q (some v) { s with heap:=h' }):wpAny (model prog w) A (pyNext (.ref I)) Q E s:=by
 have tn:=it.typeIs
 obtain ⟨oi,hoi,hci,hdi⟩:=it
 unfold pyNext
 refine wpAny_bind (wpAny_attempt (wpAny_callSpecial?_slot (name:=Str.ofString "__next__") tn Si.slot_next (wpAny_call_entry Si.slot_next tn Si.entry_next ?_ (Si.args_next _))))
 unfold Builtin.«set_iterator.__next__»
 wp_walk
 rw [hdi]
 refine wpAny_pure ?_
 dsimp only [rawInt]
 refine wpAny_bind (wpAny_setEntries_of ho hd hf ?_)
 rw [if_neg (by simp)]
 refine wpAny_bind (hN _ _ ?_)
 dsimp only
 refine wpAny_bind (wpAny_setField hoi hdi (by simp) ?_)
 have g1:=Heap.get?_update_self (Obj.mapFields (·.setIfInBounds 0 (Value.int (p:Int) 0))) hoi (Obj.isFreed_of_fields (Obj.data_mapFields hdi _))
 refine wpAny_bind (wpAny_setField (s:={ s with heap:=s.heap.update I (Obj.mapFields (·.setIfInBounds 0 (Value.int (p:Int) 0))) }) g1 (Obj.data_mapFields hdi _) (by simp) (wpAny_pure ⟨_,rfl,wpAny_pure (hQ _ ⟨_,Heap.get?_update_self _ g1 (Obj.isFreed_of_fields (Obj.data_mapFields (Obj.data_mapFields hdi _) _)),?_,?_⟩ ((Heap.SameBut.update ..).trans (Heap.SameBut.update ..)))⟩))
 ·exact (Obj.cls_mapFields ..).trans ((Obj.cls_mapFields ..).trans hci)
 ·rw [Obj.data_mapFields (Obj.data_mapFields hdi _)]
  simp [rawInt]
theorem yU {I S:Addr} {o:Obj} {es:Array (Int×Value)} {ep i q:Nat} {t:SetTable} {Q:Option Value->Shared->Prop} (hh:A.handled=none) (ho:s.heap.get? S=some o) (hd:o.data=.set es ep t) (hf:t.fits es.size=true) (it:nU s.heap I S (rawInt q) i es.size ep)
  (hN:∀ (Q1:Option (Value×Nat)->Shared->Prop) (E1:Value->Shared->Prop),Q1 none s->wpAny (model prog w) A.in1 (setNext S q i ep) Q1 E1 s)
  (hQ:∀ h',Heap.ExtBut I s.heap h'->Q none { s with heap:=h' }):wpAny (model prog w) A (pyNext (.ref I)) Q E s:=by
 have tn:=it.typeIs
 have hA:A.in1.handled=none:=hh
 obtain ⟨oi,hoi,hci,hdi⟩:=it
 unfold pyNext
 refine wpAny_bind (wpAny_attempt (wpAny_callSpecial?_slot (name:=Str.ofString "__next__") tn Si.slot_next (wpAny_call_entry Si.slot_next tn Si.entry_next ?_ (Si.args_next _))))
 unfold Builtin.«set_iterator.__next__»
 wp_walk
 rw [hdi]
 refine wpAny_pure ?_
 dsimp only [rawInt]
 refine wpAny_bind (wpAny_setEntries_of ho hd hf ?_)
 rw [if_neg (by simp)]
 refine wpAny_bind (hN _ _ ?_)
 dsimp only
 wp_walk using wpAny_setField hoi hdi (by simp)
 unfold raiseNew
 apply wpAny_bind
 apply wpAny_handled
 rw [hA]
 refine wpAny_bind (wpAny_pure (wpAny_throw (wpAny_bind ?_)))
 refine wpAny_isInstance (b:=true) (T := "StopIteration") ?_ isSubtype_stop ?_
 ·exact ⟨_,Heap.get?_push_size _ rfl,rfl⟩
 apply wpAny_pure
 apply hQ
 exact ((Heap.SameBut.update ..).extBut.push _).push _
theorem RM {I S T:Addr} {o:Obj} {es:Array (Int×Value)} {ep i j:Nat} {t:SetTable} {v:Value} {hv:Int} {ps:Array Value} {Q:Option Value->Shared->Prop} (ho:s.heap.get? S=some o) (hd:o.data=.set es ep t) (hf:t.fits es.size=true) (it:nU s.heap I S (.ref T) i es.size ep)
  (ht:s.heap.IsTuple T ps) (hp:ps[i]? = some (rawInt j)) (he:es[j]? = some (hv,v))
  (hQ:∀ h',nU h' I S (.ref T) (i+1) es.size ep->Heap.SameBut I s.heap h'->Q (some v) { s with heap:=h' }):wpAny (model prog w) A (pyNext (.ref I)) Q E s:=by
 have tn:=it.typeIs
 obtain ⟨oi,hoi,hci,hdi⟩:=it
 obtain ⟨oT,hoT,_,nT,hdT⟩:=ht
 unfold pyNext
 refine wpAny_bind (wpAny_attempt (wpAny_callSpecial?_slot (name:=Str.ofString "__next__") tn Si.slot_next (wpAny_call_entry Si.slot_next tn Si.entry_next ?_ (Si.args_next _))))
 unfold Builtin.«set_iterator.__next__»
 wp_walk
 rw [hdi]
 refine wpAny_pure ?_
 dsimp only [rawInt]
 refine wpAny_bind (wpAny_setEntries_of ho hd hf ?_)
 rw [if_neg (by simp)]
 unfold seqItems?
 refine wpAny_bind (wpAny_bind (wpAny_load hoT ?_))
 rw [hdT]
 refine wpAny_pure ?_
 have e1:ps[((i:Nat):Int).toNat]? = some (.int (j:Int) 0):=hp
 dsimp only
 rw [e1]
 dsimp only
 unfold setNextDrawn
 refine wpAny_bind (wpAny_bind (wpAny_setState_of ho hd hf ?_))
 dsimp only
 rw [if_neg (by simp)]
 have e2:es[((j:Nat):Int).toNat]? = some (hv,v):=he
 rw [e2]
 refine wpAny_pure ?_
 refine wpAny_bind (wpAny_setField hoi hdi (by simp) (wpAny_pure ⟨_,rfl,wpAny_pure (hQ _ ⟨_,Heap.get?_update_self _ hoi (Obj.isFreed_of_fields (Obj.data_mapFields hdi _)),?_,?_⟩ (Heap.SameBut.update ..))⟩))
 ·exact (Obj.cls_mapFields ..).trans hci
 ·rw [Obj.data_mapFields hdi]
  simp [rawInt]
theorem MJ {I S T:Addr} {o:Obj} {es:Array (Int×Value)} {ep i:Nat} {t:SetTable} {ps:Array Value} {Q:Option Value->Shared->Prop} (hh:A.handled=none) (ho:s.heap.get? S=some o) (hd:o.data=.set es ep t) (hf:t.fits es.size=true) (it:nU s.heap I S (.ref T) i es.size ep)
  (ht:s.heap.IsTuple T ps) (hp:ps[i]? = none) (hQ:∀ h',Heap.ExtBut I s.heap h'->Q none { s with heap:=h' }):wpAny (model prog w) A (pyNext (.ref I)) Q E s:=by
 have tn:=it.typeIs
 have hA:A.in1.handled=none:=hh
 obtain ⟨oi,hoi,hci,hdi⟩:=it
 obtain ⟨oT,hoT,_,nT,hdT⟩:=ht
 unfold pyNext
 refine wpAny_bind (wpAny_attempt (wpAny_callSpecial?_slot (name:=Str.ofString "__next__") tn Si.slot_next (wpAny_call_entry Si.slot_next tn Si.entry_next ?_ (Si.args_next _))))
 unfold Builtin.«set_iterator.__next__»
 wp_walk
 rw [hdi]
 refine wpAny_pure ?_
 dsimp only [rawInt]
 refine wpAny_bind (wpAny_setEntries_of ho hd hf ?_)
 rw [if_neg (by simp)]
 unfold seqItems?
 refine wpAny_bind (wpAny_bind (wpAny_load hoT ?_))
 rw [hdT]
 refine wpAny_pure ?_
 have e1:ps[((i:Nat):Int).toNat]? = none:=hp
 dsimp only
 rw [e1]
 dsimp only
 wp_walk using wpAny_setField hoi hdi (by simp),wpAny_setField (Heap.get?_update_self _ hoi (Obj.isFreed_of_fields (Obj.data_mapFields hdi _))) (Obj.data_mapFields hdi _) (by simp)
 unfold raiseNew
 apply wpAny_bind
 apply wpAny_handled
 rw [hA]
 refine wpAny_bind (wpAny_pure (wpAny_throw (wpAny_bind ?_)))
 refine wpAny_isInstance (b:=true) (T := "StopIteration") ?_ isSubtype_stop ?_
 ·exact ⟨_,Heap.get?_push_size _ rfl,rfl⟩
 apply wpAny_pure
 apply hQ
 exact (((Heap.SameBut.update ..).trans (Heap.SameBut.update ..)).extBut.push _).push _
end
end L6
end
section
namespace L6
open PySem PySem.Spec PyProof.Rows
theorem MK {M:Model} {A:Around} {E:Value->Shared->Prop} {s:Shared} {src:Source} {n:Nat} {Q:Nat->Shared->Prop} (hn:n≠0) (h:∀ i d,i<n->Q i { s with drawn:=d }):wpAny M A (choose src n) Q E s:=fun Γ p hΓ=>by
 unfold choose
 exact ⟨hn,h _ _ (Nat.mod_lt _ (Nat.pos_of_ne_zero hn))⟩
theorem nV {α:Type}:∀ (l:List α) (i:Nat) (x:α),l[i]? = some x->l.Perm (x::l.eraseIdx i)
 | [],i,x,h=>by simp at h
 | a::l,0,x,h=>by
  simp at h
  subst h
  exact List.Perm.refl _
 | a::l,i+1,x,h=>by
  have q:=nV l i x (by simpa using h)
  rw [List.eraseIdx_cons_succ]
  exact (q.cons a).trans (List.Perm.swap ..)
theorem JV {M:Model} {A:Around} {E:Value->Shared->Prop} {α:Type}:∀ (n:Nat) (l:List α) (s:Shared) {Q:List α->Shared->Prop},l.length=n->(∀ l' d,l'.Perm l->Q l' { s with drawn:=d })->wpAny M A (drawOrder n l) Q E s
 | 0,l,s,Q,hl,h=>by
  have:l=[]:=List.length_eq_zero_iff.mp hl
  subst this
  unfold drawOrder
  exact wpAny_pure (h [] s.drawn (List.Perm.refl _))
 | n+1,[],s,Q,hl,h=>by simp at hl
 | n+1,a::l,s,Q,hl,h=>by
  unfold drawOrder
  refine wpAny_bind (MK (by simp) fun i d hi=>?_)
  have e:(a::l)[i]? = some ((a::l)[i]):=List.getElem?_eq_getElem hi
  rw [e]
  refine wpAny_bind (JV n _ _ (by rw [List.length_eraseIdx_of_lt hi]; simp at hl ⊢; omega) fun l' d' hp=>wpAny_pure ?_)
  exact h _ d' ((hp.cons _).trans (nV _ _ _ e).symm)
theorem JW {α:Type} (f:Nat->Nat):∀ (n k:Nat) (l:List α) (out:Array α),l.length<=n->(pickOrder.go f n k l out).toList.Perm (out.toList++l)
 | 0,k,l,out,h=>by
  have:l=[]:=List.length_eq_zero_iff.mp (Nat.le_zero.mp h)
  subst this
  unfold pickOrder.go
  rw [List.append_nil]
 | n+1,k,l,out,h=>by
  unfold pickOrder.go
  cases l with
  | nil=>simp
  | cons a l =>
   have hi:f k % (a::l).length<(a::l).length:=Nat.mod_lt _ (by simp)
   have e:(a::l)[f k % (a::l).length]? = some ((a::l)[f k % (a::l).length]):=List.getElem?_eq_getElem hi
   rw [e]
   refine (JW f n (k+1) _ _ (by rw [List.length_eraseIdx_of_lt hi]; simp at h ⊢; omega)).trans ?_
   rw [Array.toList_push,List.append_assoc]
   exact List.Perm.append_left _ (nV _ _ _ e).symm
theorem qS {α:Type} (f:Nat->Nat) (xs:Array α):(pickOrder f xs).toList.Perm xs.toList:=by
 have q:=JW f xs.size 0 xs.toList #[] (by simp)
 simpa [pickOrder] using q
section
variable {prog:Program} {w:World} {A:Around} {E:Value->Shared->Prop} {s:Shared}
theorem pD {S:Addr} {o:Obj} {es:Array (Int×Value)} {ep:Nat} {t:SetTable} {Q:Option (Value×Nat)->Shared->Prop} (hw:dO w=false) (ho:s.heap.get? S=some o) (hd:o.data=.set es ep t) (hf:t.fits es.size=true) (q i:Nat)
  (h:Q (((pickOrder (w.params.setOrder S ep) es)[i]?).map fun e=>(e.2,q)) s):wpAny (model prog w) A (setNext S q i ep) Q E s:=by
 have hb:w.params.followText "set-order" = true:=by unfold dO at hw; simpa using hw
 unfold setNext
 apply wpAny_bind; refine wpAny_setState_of ho hd hf ?_
 dsimp only
 refine wpAny_bind (lQ hb ?_)
 rw [if_pos rfl,if_neg (by simp)]
 refine wpAny_bind ?_
 unfold setWalk
 apply wpAny_bind; refine wpAny_setState_of ho hd hf ?_
 dsimp only
 refine wpAny_bind (lQ hb ?_)
 rw [if_pos rfl]
 exact wpAny_bind (wpAny_askSetting (wpAny_pure (wpAny_pure h)))
theorem vG {h h':Heap} {I S:Addr} {f:Value} {i n ep:Nat} (x:nU h I S f i n ep) (k:∀ o,h.get? I=some o->h'.get? I=some o):nU h' I S f i n ep:=let ⟨o,a,b⟩:=x; ⟨o,k o a,b⟩
theorem BF {I S:Addr} {f:Value} {i n ep:Nat} {Q:Value->Shared->Prop} (it:nU s.heap I S f i n ep) (h:Q (.ref I) s):wpAny (model prog w) A (pyIter (.ref I)) Q E s :=
 wpAny_pyIter_slot it.typeIs Si.yT (wpAny_call_entry Si.yT it.typeIs Si.GX (wpAny_pure ⟨_,rfl,_,_,it.typeIs,Si.slot_next.lookup,h⟩) (Si.MI _))
noncomputable def slotAt (t:SetTable):Nat->Nat
 | 0=>0
 | i+1=>t.place.getD i 0+1
theorem vH {t:SetTable} (up:Up t.place.toList) {i:Nat} (hi:i<=t.place.size):SetTable.below t.place (slotAt t i)=i:=by
 cases i with
 | zero=>exact DN up
 | succ i =>
  have e:t.place[i]? = some (t.place.getD i 0):=by
   rw [Array.getD_eq_getD_getElem?,Array.getElem?_eq_getElem (by omega)]
   rfl
  exact GV up e
theorem vI {t:SetTable} {n:Nat} (h:t.fits n=true):t.place.size=n:=by
 unfold SetTable.fits at h
 simp at h
 exact h.1
theorem DS {I S:Addr} {o:Obj} {es:Array (Int×Value)} {ep:Nat} {t:SetTable} (hh:A.handled=none) (hw:dO w=true) (hIS:S≠I) (hd:o.data=.set es ep t) (hT:ND true t es.size) (hp:¬ (!t.plain&&es.size>1)=true) :
  Walks prog w A I [I,S] [I] es.size (fun i v=>(es.toList.map (·.2))[i]? = some v) (fun i h=>h.get? S=some o/\i<=es.size/\nU h I S (rawInt (slotAt t i)) i es.size ep) where
 sub:=fun c hc=>by simp at hc; simp [hc]
 frame:=fun i h h' st k=>⟨k S (by simp) o st.1,st.2.1,vG st.2.2 fun o e=>k I (by simp) o e⟩
 item:=fun i s R E hi st hQ=>by
  obtain ⟨ho,hle,it⟩:=st
  have e1:es[i]? = some (es[i].1,es[i].2):=Array.getElem?_eq_getElem hi
  have sz:=vI hT.fit
  have e2:t.place[i]? = some (t.place.getD i 0):=by
   rw [Array.getD_eq_getD_getElem?,Array.getElem?_eq_getElem (by omega)]
   rfl
  refine DR (v:=es[i].2) (p:=slotAt t (i+1)) ho hd hT.fit it (fun Q1 E1 q=>mJ hw ho hd hT hp (vH hT.up (by omega)) (by rw [e1,e2]; exact q) i) fun h' it' sb=>?_
  exact hQ _ h' s.toks (by simp [hi]) ⟨by rw [sb.2 S hIS]; exact ho,hi,it'⟩ fun b u hb e=>by rw [sb.2 b (by simpa using hb)]; exact e
 done:=fun s Q E st hQ=>by
  obtain ⟨ho,hle,it⟩:=st
  have sz:=vI hT.fit
  refine yU hh ho hd hT.fit it (fun Q1 E1 q=>mJ hw ho hd hT hp (vH hT.up (by omega)) (by rw [Array.getElem?_eq_none (by omega)]; exact q) es.size) fun h' ex=>?_
  exact hQ h' s.toks fun b u hb e=>ex b u (by simpa using hb) e
 self:=fun i s Q E st hQ=>BF st.2.2 hQ
theorem GY {I S:Addr} {o:Obj} {es:Array (Int×Value)} {ep:Nat} {t:SetTable} (hh:A.handled=none) (hw:dO w=false) (hIS:S≠I) (hd:o.data=.set es ep t) (hf:t.fits es.size=true) :
  Walks prog w A I [I,S] [I] es.size (fun i v=>((pickOrder (w.params.setOrder S ep) es).toList.map (·.2))[i]? = some v) (fun i h=>h.get? S=some o/\i<=es.size/\nU h I S (rawInt (0:Nat)) i es.size ep) where
 sub:=fun c hc=>by simp at hc; simp [hc]
 frame:=fun i h h' st k=>⟨k S (by simp) o st.1,st.2.1,vG st.2.2 fun o e=>k I (by simp) o e⟩
 item:=fun i s R E hi st hQ=>by
  obtain ⟨ho,hle,it⟩:=st
  have sz:(pickOrder (w.params.setOrder S ep) es).size=es.size:=by have q:=(qS (w.params.setOrder S ep) es).length_eq; simpa using q
  generalize hP:pickOrder (w.params.setOrder S ep) es=P at sz hQ
  have e1:P[i]? = some P[i]:=Array.getElem?_eq_getElem (by omega)
  refine DR (v:=P[i].2) (p:=0) ho hd hf it (fun Q1 E1 q=>pD hw ho hd hf 0 i (by rw [hP,e1]; exact q)) fun h' it' sb=>?_
  have hi2:i<P.size:=by omega
  exact hQ _ h' s.toks (by simp [hi2]) ⟨by rw [sb.2 S hIS]; exact ho,hi,it'⟩ fun b u hb e=>by rw [sb.2 b (by simpa using hb)]; exact e
 done:=fun s Q E st hQ=>by
  obtain ⟨ho,hle,it⟩:=st
  have sz:(pickOrder (w.params.setOrder S ep) es).size=es.size:=by have q:=(qS (w.params.setOrder S ep) es).length_eq; simpa using q
  refine yU hh ho hd hf it (fun Q1 E1 q=>pD hw ho hd hf 0 es.size (by rw [Array.getElem?_eq_none (by omega)]; exact q)) fun h' ex=>?_
  exact hQ h' s.toks fun b u hb e=>ex b u (by simpa using hb) e
 self:=fun i s Q E st hQ=>BF st.2.2 hQ
theorem DT {I S T:Addr} {o:Obj} {es:Array (Int×Value)} {ep:Nat} {t:SetTable} {js:List Nat} (hh:A.handled=none) (hIS:S≠I) (hTI:T≠I) (hd:o.data=.set es ep t) (hf:t.fits es.size=true) (hj:js.Perm (List.range es.size)) :
  Walks prog w A I [I,S,T] [I] es.size (fun i v=>((js.map fun j=>(es.toList.map (·.2)).getD j .none))[i]? = some v)
   (fun i h=>h.get? S=some o/\h.IsTuple T ((js.map fun j:Nat=>rawInt (j:Int)).toArray)/\nU h I S (.ref T) i es.size ep) where
 sub:=fun c hc=>by simp at hc; simp [hc]
 frame:=fun i h h' st k=>⟨k S (by simp) o st.1,st.2.1.at fun o e=>k T (by simp) o e,vG st.2.2 fun o e=>k I (by simp) o e⟩
 item:=fun i s R E hi st hQ=>by
  obtain ⟨ho,ht,it⟩:=st
  have hl:js.length=es.size:=by have q:=hj.length_eq; simpa using q
  have hi2:i<js.length:=by omega
  have hlt:js[i]<es.size:=by have q:=hj.mem_iff.1 (List.getElem_mem hi2); simpa using q
  have e1:es[js[i]]? = some (es[js[i]].1,es[js[i]].2):=Array.getElem?_eq_getElem hlt
  refine RM (j:=js[i]) (v:=es[js[i]].2) ho hd hf it ht (by simp [hi2]) e1 fun h' it' sb=>?_
  exact hQ _ h' s.toks (by simp [hi2,hlt]) ⟨by rw [sb.2 S hIS]; exact ho,ht.at fun o e=>by rw [sb.2 T hTI]; exact e,it'⟩ fun b u hb e=>by rw [sb.2 b (by simpa using hb)]; exact e
 done:=fun s Q E st hQ=>by
  obtain ⟨ho,ht,it⟩:=st
  have hl:js.length=es.size:=by have q:=hj.length_eq; simpa using q
  refine MJ hh ho hd hf it ht (by simp [hl]) fun h' ex=>?_
  exact hQ h' s.toks fun b u hb e=>ex b u (by simpa using hb) e
 self:=fun i s Q E st hQ=>BF st.2.2 hQ
end
section
variable {prog:Program} {w:World} {A:Around} {E:Value->Shared->Prop} {s:Shared}
noncomputable def Gives (prog:Program) (w:World) (I:Addr) (fp:List Addr) (vs:List Value) (h:Heap):Prop :=
 ∃ (n:Nat) (P:Nat->Value->Prop) (St:Nat->Heap->Prop),n=vs.length/\(∀ i v,P i v->vs[i]? = some v)/\St 0 h /\ ∀ A:Around,A.handled=none->Walks prog w A I fp [I] n P St
theorem RN {S:Addr} {o:Obj} {es:Array (Int×Value)} {ep:Nat} {t:SetTable} {Q:Bool->Shared->Prop} (ho:s.heap.get? S=some o) (hd:o.data=.set es ep t) (hf:t.fits es.size=true)
  (h:Q (dO w&&(!t.plain&&es.size>1)) s):wpAny (model prog w) A (setDrawn S) Q E s:=by
 unfold setDrawn
 apply wpAny_bind; refine wpAny_setState_of ho hd hf ?_
 dsimp only
 refine wpAny_bind (lQ (b:=!dO w) (by unfold dO; simp) (wpAny_pure ?_))
 rw [Bool.not_not]
 exact h
theorem RO {S:Addr} {o:Obj} {ns:List Int} {Q:Value->Shared->Prop} (ho:s.heap.get? S=some o) (hi:l0 (dO w) o ns)
  (h:∀ h' d I fp vs ms,(∀ b u,s.heap.get? b=some u->h'.get? b=some u)->(∀ b∈fp,b=S\/s.heap.objs.size<=b)->s.heap.objs.size<=I->IntsAre vs ms->ms.Perm ns->Gives prog w I fp vs h'->Q (.ref I) { s with heap:=h',drawn:=d }) :
  wpAny (model prog w) A (pyIter (.ref S)) Q E s:=by
 obtain ⟨es,ep,t,hx,hd,hE,hp,hT,hs⟩:=hi
 have tS:s.TypeIs (.ref S) "set" := ⟨o,ho,hx.1⟩
 have lS:=Heap.lt_size ho
 have W9:∀ l:List (Int×Value),(∀ e∈l,DP e)->IntsAre (l.map (·.2)) (l.map nR):=by
  intro l
  induction l with
  | nil=>intro _; exact .nil
  | cons e l ih =>
   intro he
   obtain ⟨m,tk,rfl⟩:=he e List.mem_cons_self
   exact .cons m tk (ih fun x hx=>he x (List.mem_cons_of_mem _ hx))
 refine wpAny_pyIter_slot tS F.slot_set_iter (wpAny_call_entry F.slot_set_iter tS Si.vF ?_ (F.args_set_iter_1 _))
 unfold Builtin.«frozenset.__iter__» Builtin.Frozenset.slot0 Builtin.Frozenset.sizeOf
 have step:∀ (f:Value) (h1:Heap) (d:Drawn),(∀ b u,s.heap.get? b=some u->h1.get? b=some u)->(∀ I:Addr,I=h1.objs.size->Q (.ref I) { s with heap:=h1.push { cls:=.type "set_iterator",data:=.fields #[f,rawInt (0:Nat),.ref S,rawInt es.size,rawInt ep] },drawn:=d }) ->
   wpAny (model prog w) A.in1 (do ret (<- newFields "set_iterator" [f,rawInt 0,.ref S,rawInt es.size,rawInt (<- setEpoch S)])) (fun fin s'=>∃ v,fin=.done (.ret v) /\ ∃ T' r,s'.TypeIs v T'/\typeLookup (.type T') "__next__" = pure (some r)/\Q v s') E { s with heap:=h1,drawn:=d }:=fun f h1 d keep q=>by
  refine wpAny_bind (wpAny_setEpoch_of (s:={ s with heap:=h1,drawn:=d }) (keep S o ho) hd hT.fit ?_)
  refine wpAny_bind (wpAny_newObj_type (wpAny_pure ⟨_,rfl,_,_,⟨_,Heap.get?_push_size _ rfl,rfl⟩,Si.slot_next.lookup,q _ rfl⟩))
 wp_walk using wpAny_setEntries_of ho hd hT.fit,RN ho hd hT.fit
 by_cases hdr:(dO w&&(!t.plain&&decide (es.size>1)))=true
 ·rw [if_pos hdr]
  rw [Bool.and_eq_true] at hdr
  refine wpAny_bind (JV es.size (List.range es.size) s (by simp) fun js d hj=>?_)
  have lj:js.length=es.size:=by have q:=hj.length_eq; simpa using q
  refine wpAny_bind (wpAny_newTuple ?_ (by rw [List.length_map,lj]; exact fits_of_scanBound hs))
  refine step (.ref s.heap.objs.size) _ d (fun b u e=>Heap.get?_push_of_some _ e) fun I eI=>?_
  have zI:@Eq Nat I (s.heap.objs.size+1):=by rw [eI,Heap.size_push]
  have nSI:S≠I:=fun z=>by rw [z,zI] at lS; exact absurd (Nat.lt_of_succ_lt lS) (Nat.lt_irrefl _)
  have nTI:s.heap.objs.size≠I:=fun z=>by rw [zI] at z; exact Nat.succ_ne_self _ z.symm
  have gI:s.heap.objs.size<=I:=by rw [zI]; exact Nat.le_succ _
  refine h _ d I [I,S,s.heap.objs.size] (js.map fun j=>(es.toList.map (·.2)).getD j .none) (js.map fun j=>(es.toList.map nR).getD j 0) (fun b u e=>Heap.get?_push_of_some _ (Heap.get?_push_of_some _ e)) (fun b hb=>?_) gI ?_ ?_ ⟨es.size,_,_,by simp [lj],fun i v q=>q,?_,fun A' hA=>DT hA (t:=t) nSI nTI hd hT.fit hj⟩
  ·simp only [List.not_mem_nil,List.mem_cons,or_false] at hb
   rcases hb with z | z | z
   ·exact .inr (z▸gI)
   ·exact .inl z
   ·exact .inr (Nat.le_of_eq z.symm)
  ·have all:∀ l:List Nat,(∀ j∈l,j<es.size)->IntsAre (l.map fun j=>(es.toList.map (·.2)).getD j .none) (l.map fun j=>(es.toList.map nR).getD j 0):=by
    intro l
    induction l with
    | nil=>intro _; exact .nil
    | cons j l ih =>
     intro hl
     have hj1:=hl j List.mem_cons_self
     obtain ⟨m,tk,e⟩:=hE es[j] (by simp [Array.getElem_mem])
     have e1:(es.toList.map (·.2)).getD j .none=.int m tk:=by simp [hj1,e]
     have e2:(es.toList.map nR).getD j 0=m:=by simp [hj1,e,nR]
     rw [List.map_cons,List.map_cons,e1,e2]
     exact .cons m tk (ih fun x hx=>hl x (List.mem_cons_of_mem _ hx))
   exact all js fun j hm=>by have q:=hj.mem_iff.1 hm; simpa using q
  ·refine ((hj.map _).trans ?_).trans hp
   have e:(List.range es.size).map (fun j=>(es.toList.map nR).getD j 0)=es.toList.map nR:=by
    refine List.ext_getElem? fun i=>?_
    by_cases hi:i<es.size
    ·simp [hi]
    ·simp [hi]
   rw [e]
  ·refine ⟨Heap.get?_push_of_some _ (Heap.get?_push_of_some _ ho),⟨_,Heap.get?_push_of_some _ (Heap.get?_push_size _ rfl),rfl,_,rfl⟩,⟨_,by rw [eI]; exact Heap.get?_push_size _ rfl,rfl,rfl⟩⟩
 ·rw [if_neg hdr]
  refine wpAny_bind (wpAny_pure (step (rawInt 0) s.heap s.drawn (fun b u e=>e) fun I eI=>?_))
  have gI:s.heap.objs.size<=I:=Nat.le_of_eq eI.symm
  have nSI:S≠I:=fun z=>by rw [z,eI] at lS; exact absurd lS (Nat.lt_irrefl _)
  have at0:∀ f,nU (s.heap.push { cls:=.type "set_iterator",data:=.fields #[f,rawInt (0:Nat),.ref S,rawInt es.size,rawInt ep] }) I S f 0 es.size ep:=fun f=>⟨_,by rw [eI]; exact Heap.get?_push_size _ rfl,rfl,rfl⟩
  have fpo:∀ b∈[I,S],b=S\/s.heap.objs.size<=b:=fun b hb=>by
   simp only [List.not_mem_nil,List.mem_cons,or_false] at hb
   rcases hb with z | z
   ·exact .inr (z▸gI)
   ·exact .inl z
  cases hw:dO w with
  | true =>
   have hpl:¬ (!t.plain&&es.size>1)=true:=fun z=>hdr (by rw [hw,z]; rfl)
   exact h _ s.drawn I [I,S] (es.toList.map (·.2)) (es.toList.map nR) (fun b u e=>Heap.get?_push_of_some _ e) fpo gI (W9 _ hE) hp
    ⟨es.size,_,_,by simp,fun i v q=>q,⟨Heap.get?_push_of_some _ ho,Nat.zero_le _,at0 _⟩,fun A' hA=>DS hA hw nSI hd (hw▸hT) hpl⟩
  | false =>
   have pp:=qS (w.params.setOrder S ep) es
   exact h _ s.drawn I [I,S] ((pickOrder (w.params.setOrder S ep) es).toList.map (·.2)) ((pickOrder (w.params.setOrder S ep) es).toList.map nR) (fun b u e=>Heap.get?_push_of_some _ e) fpo gI (W9 _ fun e he=>hE e (pp.mem_iff.1 he)) ((pp.map nR).trans hp)
    ⟨es.size,_,_,by have q:=pp.length_eq; simp at q ⊢; omega,fun i v q=>q,⟨Heap.get?_push_of_some _ ho,Nat.zero_le _,at0 _⟩,fun A' hA=>GY hA hw nSI hd hT.fit⟩
theorem RP {S:Addr} {o:Obj} {Q:Bool->Shared->Prop} (ho:s.heap.get? S=some o) (hc:o.cls=.type "set") (h:Q false s):wpAny (model prog w) A (Builtin.List.listLengthHint (.ref S)) Q E s:=by
 have tS:s.TypeIs (.ref S) "set" := ⟨o,ho,hc⟩
 have e:splitId "set.__len__" = some ("set", "__len__"):=by kernel_rfl
 show wpAny _ _ (Builtin.List.listLengthHint _) _ _ _; unfold Builtin.List.listLengthHint
 refine wpAny_bind (wpAny_specialOf tS F.slot_set_len.lookup ?_)
 dsimp only
 rw [e]
 dsimp only
 refine wpAny_bind (wpAny_isInstance tS sub_set_self ?_)
 rw [if_neg (by decide),if_pos (by kernel_rfl)]
 exact wpAny_bind (wpAny_typeOf tS (wpAny_pure h))
theorem GZ {L S:Addr} {o:Obj} {ns:List Int} {c0:Nat} {res:Value} {R:Result->Shared->Prop} (hh:A.handled=none) (ho:s.heap.get? S=some o) (hi:l0 (dO w) o ns) (hL:s.heap.get? L=some { cls:=.type "list",data:=.seq #[] c0 })
  (hR:∀ h' d tk acc c' ms,(∀ b u,b≠L->s.heap.get? b=some u->h'.get? b=some u)->h'.get? L=some { cls:=.type "list",data:=.seq acc c' }->IntsAre acc.toList ms->ms.Perm ns->R (.ok (.ret res)) { s with heap:=h',drawn:=d,toks:=tk }) :
  wpAny (model prog w) A.in1 (Builtin.List.listExtendWith (.ref L) (.ref S) res) (fun fin s'=>match fin with | .done f=>R (.ok f) s' | .again c'=>c'.quiet=true/\codeAny (model prog w) A c' R s') (fun e s'=>R (.error e) s') s:=by
 have hx:o.ExactSet:=by obtain ⟨_,_,_,hx,_⟩:=hi; exact hx
 have hns:ns.length<scanBound:=by obtain ⟨es,_,_,_,_,_,hp,_,hs⟩:=hi; rw [<- hp.length_eq]; simpa using hs
 have nLS:L≠S:=fun z=>by rw [z,ho] at hL; cases hL; have q:=hx.1; simp at q
 have lL:=Heap.lt_size hL
 show wpAny _ _ (Builtin.List.listExtendWith _ _ _) _ _ _; unfold Builtin.List.listExtendWith
 refine wpAny_bind (wpAny_typeOf (T := "set") ⟨o,ho,hx.1⟩ ?_)
 have e1:Builtin.List.listSameRef (.ref L) (.ref S)=false:=by simp [Builtin.List.listSameRef,nLS]
 rw [if_neg (by rw [e1]; decide)]
 refine wpAny_bind (RO (A:=A.in1) ho hi fun h1 d I fp vs ms keep hfp gI hv hm gv=>?_)
 refine wpAny_bind (wpAny_holding (RP (s:={ s with heap:=h1,drawn:=d }) (keep S o ho) hx.1 ?_))
 rw [if_pos (by kernel_rfl)]
 unfold Builtin.List.listTouch
 have g1:=keep L _ hL
 have gb:∀ (f:Array Value->Array Value) (g:Heap) (c:Nat) (xs:Array Value),g.get? L=some { cls:=.type "list",data:=.seq xs c } -> ∃ c',(g.update L (Obj.mapSeq f)).get? L=some { cls:=.type "list",data:=.seq (f xs) c' }:=fun f g c xs e=>⟨_,get?_update_seq e f⟩
 refine wpAny_bind (wpAny_rule (wpAny_bind (wpAny_bind (listUpdate_at (s:={ s with heap:=h1,drawn:=d }) g1 rfl ?_ (Nat.zero_le _) (by simp)))))
 obtain ⟨c2,g2⟩:=gb (·.push .none) h1 _ _ g1
 refine listUpdate_at (s:={ s with heap:=h1.update L (Obj.mapSeq (·.push .none)),drawn:=d }) g2 rfl ?_ (by simp; rw [sizeLine_eq]; omega) (by simp)
 obtain ⟨c3,g3⟩:=gb (·.pop) _ _ _ g2
 obtain ⟨n,P,St,en,hP,st0,W⟩:=gv
 have nLI:L≠I:=fun z=>by rw [z] at lL; exact absurd (Nat.lt_of_lt_of_le lL gI) (Nat.lt_irrefl _)
 have nLf:L∉fp:=fun z=>by
  rcases hfp L z with q | q
  ·exact nLS q
  ·exact absurd (Nat.lt_of_lt_of_le lL q) (Nat.lt_irrefl _)
 have W1:=(W A.in1 hh).toS
 have nn:n<=sizeLine:=by rw [en,IntsAre.length hv,hm.length_eq]; exact fits_of_scanBound hns
 refine wpAny_pure ⟨plainId_quiet F.plain_extend_loop _,codeAny_extend_loopS W1 nn L nLf res n 0 _ #[] _ rfl (Nat.zero_le _) (W1.frame 0 { s with heap:=h1,drawn:=d } _ s.toks st0 (Nat.le_refl _) fun b hb u e=>?_) g3 (ItemsOf.nil _) fun s' acc c' mv hL' it=>?_⟩
 ·have nb:L≠b:=fun z=>nLf (z▸hb)
  exact (Heap.get?_update_other _ _ nb).trans ((Heap.get?_update_other _ _ nb).trans e)
 ·have es':s' = { s with heap:=s'.heap,drawn:=d,toks:=s'.toks }:=by
   obtain ⟨h',g',d',t',o'⟩:=s'
   have q1:=mv.gens
   have q2:=mv.drawn
   have q3:=mv.os
   dsimp only at q1 q2 q3
   subst q1
   subst q2
   subst q3
   rfl
  have ev:acc.toList=vs:=by
   refine List.ext_getElem? fun j=>?_
   by_cases hj:j<n
   ·have e1:acc[j]? = some (acc[j]'(by rw [it.1]; exact hj)):=Array.getElem?_eq_getElem _
    rw [Array.getElem?_toList,e1]
    exact (hP j _ (it.2 j _ e1)).symm
   ·rw [List.getElem?_eq_none (by simp [it.1]; omega),List.getElem?_eq_none (by omega)]
  rw [es']
  refine hR _ d _ acc c' ms (fun b u nb e=>mv.heap b u (fun z=>?_) ?_) hL' (ev▸hv) hm
  ·rcases List.mem_cons.1 z with q | q
   ·exact nb q
   ·rw [List.mem_singleton] at q
    rw [q] at e
    exact absurd (Nat.lt_of_lt_of_le (Heap.lt_size e) gI) (Nat.lt_irrefl _)
  ·exact (Heap.get?_update_other _ _ (Ne.symm nb)).trans ((Heap.get?_update_other _ _ (Ne.symm nb)).trans (keep b u e))
end
section
variable {prog:Program} {w:World} {A:Around} {E:Value->Shared->Prop} {s:Shared}
theorem DU {S:Addr} {o:Obj} {ns:List Int} {Q:List Value->Shared->Prop} (hh:A.handled=none) (ho:s.heap.get? S=some o) (hi:l0 (dO w) o ns)
  (h:∀ h' d tk vs ms,s.heap.objs.size<=h'.objs.size->(∀ b u,s.heap.get? b=some u->h'.get? b=some u)->IntsAre vs ms->ms.Perm ns->Q vs { s with heap:=h',drawn:=d,toks:=tk }):wpAny (model prog w) A (collect (.ref S)) Q E s:=by
 unfold collect
 apply wpAny_bind
 apply wpAny_runValue
 refine codeAny_builtin F.entry_proto_collect ?_
 rw [Around.under_plainId F.plain_proto_collect]
 wp_walk
 refine ⟨plainId_quiet F.plain_list_iadd _,codeAny_builtin F.entry_list_iadd ?_⟩
 rw [Around.under_plainId F.plain_list_iadd]
 refine GZ (R:=wants _ _) (s:={ s with heap:=s.heap.push { cls:=.type "list",data:=.seq #[] } }) hh (Heap.get?_push_of_some _ ho) hi (Heap.get?_push_size _ rfl) fun h' d tk acc c' ms keep gL hv hm=>?_
 apply wpAny_bind
 apply wpAny_load gL
 exact wpAny_pure (h h' d tk acc.toList ms (Nat.le_of_lt (Heap.lt_size gL)) (fun b u e=>keep b u (Nat.ne_of_lt (Heap.lt_size e)) (Heap.get?_push_of_some _ e)) hv hm)
theorem G0 {S:Addr} {o:Obj} {ns:List Int} {Q:Value->Shared->Prop} (hh:A.handled=none) (ho:s.heap.get? S=some o) (hi:l0 (dO w) o ns) (h64:ns.length<64)
  (h:∀ h' d tk l out ns' e,(∀ b u,s.heap.get? b=some u->h'.get? b=some u)->s.heap.objs.size<=l->IntsAre out ns'->ns'.Perm ns->ns'.Pairwise (· <= ·)->h'.get? l=some (seqObj "list" out.toArray e)->Q (.ref l) { s with heap:=h',drawn:=d,toks:=tk }) :
  wpAny (model prog w) A (call (.builtin "sorted") [.ref S]) Q E s:=by
 apply Calls.call_function_entry kind_sorted plain_sorted entry_sorted (args_sorted1 _)
 unfold Builtin.«sorted»
 refine wpAny_bind (m:=checkCount "sorted" 1 1 _) (wpAny_pure (wpAny_bind (DU (A:=A.in1) hh ho hi fun h1 d tk vs ms l1 keep hv hm=>?_)))
 have lv:vs.length<64:=by rw [IntsAre.length hv,hm.length_eq]; exact h64
 apply wpAny_bind; refine wpAny_newList ?_ (by rw [sizeLine_eq]; omega)
 have g1:(h1.push (seqObj "list" vs.toArray 0)).get? h1.objs.size=some (seqObj "list" vs.toArray 0):=Heap.get?_push_size _ rfl
 refine wpAny_bind (wpAny_holding (wpAny_call_entry slot_list_sort ⟨_,g1,rfl⟩ entry_list_sort (list_sort_tree g1 hv lv fun out ns' a1 a2 a3=>⟨_,rfl,?_⟩) (args_list_sort _)))
 obtain ⟨e,g2⟩:=sortedHeap_at (out:=out) g1
 refine wpAny_pure ⟨_,rfl,h _ d tk _ out.toList ns' e (fun b u q=>?_) l1 a1 (a2.trans hm) a3 (by simpa using g2)⟩
 have lb:=Heap.lt_size (keep b u q)
 rw [sortedHeap_old (Nat.ne_of_lt lb) (by rw [Heap.size_push]; exact Nat.lt_succ_of_lt lb)]
 exact Heap.get?_push_of_some _ (keep b u q)
end
end L6
end
section
namespace L6
open PySem PySem.Spec PyProof.Rows L2 L3 L4
theorem sD:∀ (ks ns:List Int),fY ns ks=ks.foldl putN ns
 | [],ns=>rfl
 | k::ks,ns=>by
  rw [fY,sD ks,List.foldl_cons]
  rfl
theorem vJ:∀ (ks ns:List Int),(fY ns ks).length<=ns.length+ks.length
 | [],ns=>Nat.le_refl _
 | k::ks,ns=>by
  have a:=vJ ks (GW ns k)
  have b:=DQ ns k
  rw [fY,List.length_cons]
  omega
noncomputable def aAY (w:World) (a:Addr) (ns:List Int):HO:=.ext fun h=>∃ o,h.get? a=some o/\l0 (dO w) o ns
section
variable {X:Cx}
theorem ML {pins:List (Addr×Obj)} {σ:L2.St} {H:Hp} {s:Shared} {d:Drawn} (I:Inv X pins σ H s):Inv X pins σ H { s with drawn:=d }:=⟨I.ok,I.os,I.bare,I.base,I.loc,I.cell,I.free,I.jK,I.pin,I.hok,I.len⟩
noncomputable def aIL (w:World) (K:PySem.W.Frag):List V->Hp->VK->Prop:=fun xs H Q=>∃ (a:Addr) (ns:List Int),xs=[.ref a]/\fU K H a (ns.map V.int)/\ns.length<64 /\ ∀ p,H p=none->Q (.ref p) (upd H p (aAY w p (fY [] ns)))
theorem MM (hc:X.calm=true):fK X (.type "set") (aIL X.w X.K):=by
 intro pins s σ H xs us Q I r h
 obtain ⟨a,ns,rfl,ha,h64,q⟩:=h
 obtain ⟨u,rfl,ru⟩:=vals1 r
 cases ru
 obtain ⟨its,rv,pl,hz⟩:=I.tuple ha
 have hi:=intsAre_of rv
 obtain ⟨ot,hot,hct,nt,hdt⟩:=id pl
 refine RL (items:=its.toArray) (ns:=ns) (I.ok.hd hc) (by simpa using hi) pl (by unfold scanBound; omega) fun h' tk o' keep g i=>?_
 refine ⟨.ref s.heap.objs.size,_,I.laid (t':=tk) (o:=aAY X.w s.heap.objs.size (fY [] ns)) keep (Nat.le_refl _) ⟨⟨o',g,i⟩,⟨o',g⟩,fun h1 h2 z k=>?_⟩,rfl,q _ (I.hok.fresh (Nat.le_refl _))⟩
 obtain ⟨o2,e2,i2⟩:=z
 exact ⟨o2,k o2 e2,i2⟩
noncomputable def aAZ (w:World):List V->Hp->VK->Prop:=fun xs H Q=>∃ (a:Addr) (ns:List Int),xs=[.ref a]/\H a=some (aAY w a ns)/\ns.length<64 /\ ∀ ns':List Int,ns'.Perm ns->ns'.Pairwise (· <= ·) -> ∀ p,H p=none->Q (.ref p) (upd H p (.lst (ns'.map V.int)))
theorem G2 (hc:X.calm=true):fK X (.builtin "sorted") (aAZ X.w):=by
 intro pins s σ H xs us Q I r h
 obtain ⟨a,ns,rfl,ha,h64,q⟩:=h
 obtain ⟨u,rfl,ru⟩:=vals1 r
 cases ru
 obtain ⟨⟨o,ho,hi⟩,_⟩:=I.hok a _ ha
 refine G0 (I.ok.hd hc) ho hi h64 fun h' d tk l out ns' e keep hl a1 a2 a3 g=>?_
 have hz2:ns'.length<=sizeLine:=by rw [a2.length_eq,sizeLine_eq]; omega
 have I1:=I.laid (t':=tk) (a:=l) (o:=.lst (ns'.map V.int)) keep hl ⟨by rw [List.length_map]; exact hz2,out,e,lP a1,by simpa [seqObj] using g⟩
 exact ⟨.ref l,_,ML (d:=d) I1,rfl,q ns' a2 a3 l (I.hok.fresh hl)⟩
theorem G3 {p pos p2 pos2:Pos} {e:Expr} {t:AF} (hc:X.calm=true) (hm:X.mg "sorted" = none) (hms:X.mg "set" = none) (ha:xC X [e] t) (hg:Gl X "sorted" := by rfl) (hgs:Gl X "set" := by rfl)
  (hs:starEach [e] X.env=(false,eval e X.env)::starEach [] X.env:=by rfl) (he:starEach [.Call (.Name "set" p2) [e] [] pos2] X.env=(false,eval (.Call (.Name "set" p2) [e] [] pos2) X.env)::starEach [] X.env:=by rfl) :
  j6 X (.Call (.Name "sorted" p) [.Call (.Name "set" p2) [e] [] pos2] [] pos) (bA fF t) :=
 imp (oP (G2 hc) hg hm PyProof.Rows.boot_sorted (gO (qJ (MM hc) hgs hms PySem.Pv.boot_set ha (by decide) (by decide) hs (by rfl)) kP he) (by decide) (by decide) he (by rfl)) fun σ H Q aDK=>by
  obtain ⟨S,ρ,Q3,fc,sl,⟨d,ed,q3⟩,k⟩:=aDK
  obtain ⟨ds,eds,ed⟩:=bnd ed
  refine ⟨S,ρ,fun es=>es=ds,fc,sl,⟨_,eds,rfl⟩,fun vs H1 es s1 d1 q1=>?_⟩
  subst q1
  unfold fF at ed
  split at ed
  ·rename_i a
   obtain ⟨ns,e1,ed⟩:=bnd ed
   by_cases hl:ns.length<64
   ·rw [if_pos hl] at ed
    cases ed
    rw [ints_of e1] at d1
    obtain ⟨v,r,rfl,h1,h2⟩:=d1.bR
    simp only [aR] at h2
    subst h2
    simp only [Dn] at h1
    obtain ⟨t1,xs,rfl,ht,dt⟩:=h1
    rw [aR.ints.mp dt] at ht
    refine ⟨t1,ns,rfl,(fU.of ht),hl,fun p hp=>⟨p,fY [] ns,rfl,aS,Nat.lt_of_le_of_lt (vJ ns []) (by simpa using hl),fun ns' pm so l hl2=>?_⟩⟩
    have e3:ns' = sortI (zK ns):=by
     have e4:fY [] ns=zK ns:=sD ns []
     rw [e4] at pm
     exact nO (pm.trans (lA _).symm) so (jF _)
    subst e3
    have l1:H1 l=none:=(aK hp).free hl2
    exact k l _ _ _ (s1.free l1) aS ((s1.trans (aK hp)).trans (aK hl2)) (aR.ints.mpr rfl) q3
   ·rw [if_neg hl] at ed; cases ed
  ·cases ed
end
section
variable {X:Cx}
end
theorem G4:fillsNumberSlot (.type "tuple") "mul" = pure false :=
 PySem.fillsNumberSlot_seq (id := "tuple.__mul__") (r:=some (.builtin "tuple.__rmul__")) PySem.F.slot_tuple_mul.lookup (by decide +kernel) PySem.F.slot_tuple_rmul.lookup (by decide +kernel)
theorem G5:seqRepeat? (.type "tuple")=pure (some (.builtin "tuple.__mul__")):=by
 unfold seqRepeat?
 rw [PySem.seqSlot_of (T := "tuple") (name := "__mul__") (id := "tuple.__mul__") PySem.F.slot_tuple_mul.lookup (by decide +kernel),PySem.seqSlot_of (T := "tuple") (name := "__rmul__") (id := "tuple.__rmul__") PySem.F.slot_tuple_rmul.lookup (by decide +kernel)]
 rfl
section
variable {prog:Program} {w:World} {A:Around} {E:Value->Shared->Prop} {s:Shared}
theorem RQ (a:Int) (tk:Tok) (t:Addr) (items:Array Value):Meets (Builtin.«int.__rmul__» ⟨[.int a tk,.ref t],[]⟩) (fun _ R s=>IsTup s.heap t items/\R (.ok (.ret Value.notImplemented)) s):=by
 refine .of_wp fun p0 w0 A0 R0 s h=>?_
 obtain ⟨ht,h⟩:=h
 have tt:=ht.typeIs
 obtain ⟨ot,hot,hct,nt,hdt⟩:=id ht
 wp_walk
 rw [hdt]
 refine wpAny_pure ?_
 exact wpAny_bind (wpAny_rule (wpAny_pure ⟨_,rfl,h⟩))
theorem VO (x:Int) (tk:Tok) (t:Addr) (items:Array Value) (hx:-(2 ^ 63:Int)<=x/\x<2 ^ 63) (hz:items.size*x.toNat<=2 ^ 24):Meets (Builtin.«tuple.__mul__» ⟨[.ref t,.int x tk],[]⟩) (fun _ R s=>IsTup s.heap t items /\
  (items.isEmpty=true\/x=1->R (.ok (.ret (.ref t))) s)/\(items.isEmpty=false->x≠1->R (.ok (.ret (.ref s.heap.objs.size))) { s with heap:=s.heap.push { cls:=.type "tuple",data:=.seq ((List.replicate x.toNat items).foldl (· ++ ·) #[]) } })):=by
 refine .of_wp fun p0 w0 A0 R0 s h=>?_
 obtain ⟨ht,h1,h2⟩:=h
 have tt:=ht.typeIs
 obtain ⟨ot,hot,hct,nt,hdt⟩:=id ht
 have e1:(decide (x < -2 ^ 63)||decide (x >= 2 ^ 63))=false:=by
  rw [decide_eq_false (by omega),decide_eq_false (by omega)]
  rfl
 wp_walk
 rw [if_neg (by rw [e1]; decide)]
 wp_walk
 rw [hdt]
 apply wpAny_pure; apply wpAny_pure
 by_cases hs:(items.isEmpty||x == 1)=true
 ·rw [if_pos hs]
  refine wpAny_bind (wpAny_bind (wpAny_typeOf tt (wpAny_pure ?_)))
  rw [if_pos (by decide)]
  exact wpAny_bind (wpAny_rule (wpAny_pure ⟨_,rfl,h1 (by simpa using hs)⟩))
 ·rw [if_neg hs]
  have hs':items.isEmpty=false/\x≠1:=by simpa using hs
  have h2:=h2 hs'.1 hs'.2
  dsimp only
  by_cases h0:x<=0
  ·rw [if_pos (by rw [decide_eq_true h0]; rfl)]
   have e0:x.toNat=0:=by omega
   rw [e0] at h2
   exact wpAny_bind (wpAny_newObj_type (wpAny_pure ⟨_,rfl,h2⟩) (Nat.zero_le _))
  ·have zz:(items.size:Int)*x<=2 ^ 24:=by
    have e2:x=(x.toNat:Int):=by omega
    rw [e2]
    exact_mod_cast hz
   rw [if_neg (by rw [decide_eq_false h0,hs'.1]; decide),if_neg (by omega),if_neg (by unfold Builtin.Tuple.tupleTooMany; rw [sizeLine_eq]; simp; omega)]
   have fl:∀ (n:Nat) (acc:Array Value),((List.replicate n items).foldl (· ++ ·) acc).size=acc.size+n*items.size:=by
    intro n
    induction n with
    | zero=>intro acc; simp
    | succ n ih=>intro acc; rw [List.replicate_succ,List.foldl_cons,ih,Array.size_append,Nat.succ_mul]; omega
   refine wpAny_bind (wpAny_newObj_type (wpAny_pure ⟨_,rfl,h2⟩) ?_)
   show ((List.replicate x.toNat items).foldl (· ++ ·) #[]).size<=sizeLine
   rw [fl,sizeLine_eq,Nat.mul_comm]
   simpa using hz
theorem VP {t:Addr} {items:Array Value} {x:Int} {u:Tok} {Q:Value->Shared->Prop} (ht:IsTup s.heap t items) (hx:-(2 ^ 63:Int)<=x/\x<2 ^ 63) (hz:items.size*x.toNat<=2 ^ 24) (h1:items.isEmpty=true\/x=1->Q (.ref t) s)
  (h2:items.isEmpty=false->x≠1->Q (.ref s.heap.objs.size) { s with heap:=s.heap.push { cls:=.type "tuple",data:=.seq ((List.replicate x.toNat items).foldl (· ++ ·) #[]) } }):wpAny (model prog w) A (binaryOp .Mult (.ref t) (.int x u)) Q E s :=
 wpAny_binaryOp_repeat_ref (T := "tuple") (U := "int") (by decide) ht.typeIs (fun s'=>typeIs_int s' x u) G4 PySem.F.fills_int_mul PySem.F.slot_int_rmul G5 PySem.F.slot_int_index.lookup
  (call_meets PySem.F.slot_int_rmul (typeIs_int s x u) PySem.F.entry_int_rmul (PySem.F.args_int_rmul_2 _ _) (RQ x u t items) ⟨ht,rfl,ht.typeIs,call_meets PySem.F.slot_tuple_mul ht.typeIs PySem.F.entry_tuple_mul (PySem.F.args_tuple_mul_2 _ _) (VO x u t items hx hz) ⟨ht,h1,h2⟩⟩)
end
section
variable {X:Cx}
noncomputable def aDL (K:PySem.W.Frag):R2:=fun x y H Q=>∃ a n xs,x=.ref a/\y=.int n/\fU K H a xs/\(-(2 ^ 63)<=n/\n<2 ^ 63)/\xs.length*n.toNat<=sizeLine/\(xs=[]\/n=1->Q (.ref a) H)/\(xs≠[]->n≠1 -> ∀ p,H p=none->Q (.ref p) (upd H p (.tup (List.replicate n.toNat xs).flatten)))
theorem yV (items:List Value):∀ (n:Nat) (acc:Array Value),((List.replicate n items.toArray).foldl (· ++ ·) acc).toList=acc.toList++(List.replicate n items).flatten
 | 0,acc=>by simp
 | n+1,acc=>by
  rw [List.replicate_succ,List.foldl_cons,yV items n,List.replicate_succ,List.flatten_cons]
  simp
theorem VQ:iT X (binaryOp .Mult) (aDL X.K):=by
 intro pins s σ H x y v u Q I rx ry h
 obtain ⟨a,n,xs,rfl,rfl,ha,hn,hz,q1,q2⟩:=h
 cases rx
 obtain ⟨tk,rfl⟩:=ry
 obtain ⟨its,rv,pl,_⟩:=I.tuple ha
 have hl:=rv.length
 have em:its.toArray.isEmpty=true↔xs=[]:=by
  rw [<- List.length_eq_zero_iff,hl]
  simp
 refine VP (items:=its.toArray) pl hn (by simpa [<- hl,sizeLine_eq] using hz) (fun z=>?_) fun z1 z2=>?_
 ·exact ⟨.ref a,H,I,rfl,q1 (z.imp em.1 id)⟩
 ·have ne:xs≠[]:=fun z=>by rw [em.2 z] at z1; cases z1
  refine ⟨.ref s.heap.objs.size,_,I.laid (t':=s.toks) (o:=.tup (List.replicate n.toNat xs).flatten) (fun b o e=>Heap.get?_push_of_some _ e) (Nat.le_refl _) ⟨?_,(List.replicate n.toNat its).flatten,rv.rep _,⟨_,Heap.get?_push_size _ rfl,rfl,0,?_⟩,CI.new _ _⟩,rfl,q2 ne z2 _ (I.hok.fresh (Nat.le_refl _))⟩
  ·have:(List.replicate n.toNat xs).flatten.length=xs.length*n.toNat:=by simp [Nat.mul_comm]
   rw [this]
   exact hz
  ·show Data.seq _ _=Data.seq _ _
   congr 1
   apply Array.toList_inj.mp
   rw [yV]
   simp
theorem DW {K:PySem.W.Frag} {S:Addr->Prop} {H:Hp} {ds:List D} {xs:List V} (h:aR K S H ds xs):∀ n:Nat,aR K S H (List.replicate n ds).flatten (List.replicate n xs).flatten
 | 0=>aR.nil
 | n+1=>by
  rw [List.replicate_succ,List.replicate_succ,List.flatten_cons,List.flatten_cons]
  exact h.append (DW h n)
theorem RR {a b d:D} (h:xM a b=some d):∃ ds n,a=.tup ds/\b=.int n/\(ds.length*n.toNat<=gX/\n.natAbs<9223372036854775808)/\d=.tup (List.replicate n.toNat ds).flatten:=by
 unfold xM at h
 split at h
 ·split at h
  ·rename_i z
   cases h
   exact ⟨_,_,rfl,rfl,z,rfl⟩
  ·cases h
 ·cases h
theorem aDM {a b:Expr} {fa fb:EF} {pos:Pos} (ha:bO X a fa) (hb:bO X b fb):bO X (.BinOp a .Mult b pos) (aE xM fa fb):=imp (IS VQ ha hb) fun σ H Q aDN=>by
 obtain ⟨S,ρ,Q3,fc,sl,⟨d,ed,q3⟩,k⟩:=aDN
 obtain ⟨dx,ex,ed⟩:=bnd ed
 obtain ⟨dy,ey,ed⟩:=bnd ed
 obtain ⟨ds,n,rfl,rfl,hz,rfl⟩:=RR ed
 refine ⟨S,ρ,fun z=>z=.tup ds,fc,sl,⟨_,ex,rfl⟩,fun v H1 d1 s1 dn1 e1=>?_⟩
 subst e1
 refine ⟨S,ρ,fun z=>z=.int n,aW fc s1,Sl.fits (.same s1) sl,⟨_,ey,rfl⟩,fun v2 H2 d2 s2 NB e2=>?_⟩
 subst e2
 simp only [Dn] at NB
 subst NB
 have dn3:=Dn.fits (.same s2) _ _ dn1
 simp only [Dn] at dn3
 obtain ⟨t,xs,rfl,ht,da⟩:=dn3
 have le:=da.len
 refine ⟨t,n,xs,rfl,rfl,(fU.of ht),⟨by have:=hz.2; omega,by have:=hz.2; omega⟩,by rw [<- le,sizeLine_eq]; exact hz.1,fun z=>?_,fun z1 z2 p hp=>?_⟩
 ·refine k _ H2 _ (s1.trans s2) ?_ q3
  have e:(List.replicate n.toNat ds).flatten=ds:=by
   rcases z with z | z
   ·have:ds=[]:=List.length_eq_zero_iff.mp (by rw [le,z]; rfl)
    rw [this]
    simp
   ·rw [z]
    simp
  rw [e]
  simp only [Dn]
  exact ⟨t,xs,rfl,ht,da⟩
 ·refine k _ _ _ ((s1.trans s2).trans (aK hp)) ?_ q3
  simp only [Dn]
  exact ⟨p,_,rfl,aS,aR.fits (.same (aK hp)) _ _ (DW da _)⟩
end
section
variable {X:Cx}
end
end L6
end
section
namespace L7
open PySem PySem.Spec PyProof.Rows L2 L3 L4 LL
noncomputable def kI (ns:List Int):List Key:=ns.map Sum.inl
theorem RS:∀ {a b:List Int},kI a=kI b->a=b
 | [],[],_=>rfl
 | [],_::_,h=>by cases h
 | _::_,[],h=>by cases h
 | x::a,y::b,h=>by
  unfold kI at h
  rw [List.map_cons,List.map_cons] at h
  injection h with h1 h2
  injection h1 with h1
  rw [h1,RS h2]
section
variable (rd:List Int->List (List Int))
noncomputable def Memo (n:Nat) (kvs:List (List Key×V)):Prop:=∀ k v,fT kvs k=some v -> ∃ ns:List Int,k=kI ns/\v=.int (Wf rd (n - ns.length) ns)
theorem Memo.put {rd:List Int->List (List Int)} {n:Nat} {kvs:List (List Key×V)} (h:Memo rd n kvs) (a:List Int):Memo rd n (putK kvs (kI a) (.int (Wf rd (n - a.length) a))):=fun k v e=>by
 rw [PB] at e
 split at e
 ·rename_i z
  cases e
  exact ⟨a,z,rfl⟩
 ·exact h k v e
theorem Memo.at {rd:List Int->List (List Int)} {n:Nat} {kvs:List (List Key×V)} (h:Memo rd n kvs) {a:List Int} {v:V} (e:fT kvs (kI a)=some v):v=.int (Wf rd (n - a.length) a):=by
 obtain ⟨ns,e1,e2⟩:=h _ _ e
 rw [RS e1]
 exact e2
noncomputable def But (p:Addr) (H H':Hp):Prop:=∀ b o,b≠p->H b=some o->H' b=some o
theorem But.trans {p:Addr} {H H1 H2:Hp} (a:But p H H1) (b:But p H1 H2):But p H H2:=fun c o n h=>b c o n (a c o n h)
theorem But.upd {p:Addr} {H:Hp} {o:HO}:But p H (upd H p o):=fun c q n h=>by rw [aO n]; exact h
noncomputable abbrev All:Addr->Prop:=fun _=>True
end
noncomputable def At (K:PySem.W.Frag) (x:List (List Int)) (a:List Int) (p:Addr) (σ:L2.St) (H:Hp):Prop :=
 ∃ vo va,σ[0]? = some (some vo)/\Dn K All H (aY x) vo/\σ[1]? = some (some va)/\Dn K All H (tupI a) va/\σ[2]? = some (some (.ref p))
theorem At.slot {K:PySem.W.Frag} {x:List (List Int)} {a:List Int} {p:Addr} {σ:L2.St} {H:Hp} (h:At K x a p σ H):σ[2]? = some (some (.ref p)):=by
 obtain ⟨vo,va,h1,h2,h3,h4,h5⟩:=h
 exact h5
section
variable {K:PySem.W.Frag} {rd:List Int->List (List Int)} {x:List (List Int)} {Ok:List Int->Prop} {a:List Int} {p:Addr} {σ:L2.St} {H:Hp} {kvs:List (List Key×V)}
end
section
variable {K:PySem.W.Frag} {rd:List Int->List (List Int)} {x:List (List Int)} {Ok:List Int->Prop} {a:List Int} {p:Addr} {σ:L2.St} {H:Hp} {kvs:List (List Key×V)}
noncomputable def wst (x:List (List Int)) (a:List Int) (p:Addr):aT:=[.ro (aY x),.ro (tupI a),.ro (.exc "" p),.no]
theorem At.st (h:At K x a p σ H):ST K H All (fun _=>0) σ H (wst x a p) []:=by
 have no:∀ (i:Nat) (d:D),(wst x a p)[i]?≠some (Sv.ow d):=fun i d e=>by
  match i,e with
  | 0,e=>cases e
  | 1,e=>cases e
  | 2,e=>cases e
  | 3,e=>cases e
  | n+4,e=>simp [wst] at e
 obtain ⟨vo,va,h1,h2,h3,h4,h5⟩:=h
 refine ⟨fun _ _=>trivial,Same.refl H,fun i d e=>absurd e (no i d),fun i j d e h=>absurd h (no i d),fun i d e=>?_,fun g hg=>(by cases hg),fun i _ e=>absurd e (no i _)⟩
 have m:∀ b,All b->SO All (fun _=>0) (wst x a p) b:=fun b _=>⟨trivial,fun i d e=>absurd e (no i d)⟩
 match i,e with
 | 0,e=>cases e; exact ⟨vo,h1,Dn.fits (.mono m) _ _ h2⟩
 | 1,e=>cases e; exact ⟨va,h3,Dn.fits (.mono m) _ _ h4⟩
 | 2,e=>cases e; exact ⟨_,h5,by simp only [Dn]⟩
 | 3,e=>cases e
 | n+4,e=>simp [wst] at e
end
end L7
end
section
namespace L7
open PySem PySem.Spec PyProof.Rows
section
variable {prog:Program} {w:World} {A:Around} {E:Value->Shared->Prop} {s:Shared} {d it:Addr} {o:Obj} {es:Array DictEntry} {ep i:Nat}
end
end L7
end
section
namespace L8
open PySem PySem.Spec PyProof.Rows L2
noncomputable def pE (kvs:List (KX×V×V)) (k:KX):Option V:=(kvs.find? fun p=>decide (p.1=k)).map (·.2.2)
noncomputable def kK (kvs:List (KX×V×V)) (k:KX) (y v:V):List (KX×V×V):=if kvs.any (fun p=>decide (p.1=k))=true then kvs.map (fun p=>if p.1=k then (p.1,p.2.1,v) else p) else kvs++[(k,y,v)]
noncomputable abbrev PL:List (KX×V×V)->List (Key×Value)->Prop:=Paired fun p q=>p.1=.inl q.1/\p.2.1=kV q.1/\RelV p.2.2 q.2
noncomputable abbrev PT (H:Hp):List (KX×V×V)->List (N1×Addr×Value)->Prop:=Paired fun p q=>p.1=.inr q.1/\p.2.1=.ref q.2.1/\qF H q.1 q.2.1/\RelV p.2.2 q.2.2
theorem PL.val {kvs:List (KX×V×V)} {vs:List (Key×Value)} (r:PL kvs vs) (k:Key):nG (pE kvs (.inl k)) (valueAt vs k):=by
 induction r with
 | nil=>exact True.intro
 | @cons p q ps qs h t ih =>
  by_cases e:q.1=k
  ·have e1:p.1=.inl k:=by rw [h.1,e]
   have a:pE (p::ps) (.inl k)=some p.2.2:=by unfold pE; rw [List.find?_cons,decide_eq_true e1]; rfl
   have b:valueAt (q::qs) k=some q.2:=by unfold valueAt; rw [List.find?_cons]; simp [e]
   rw [a,b]
   exact h.2.2
  ·have e1:¬ p.1=.inl k:=fun z=>e (by rw [h.1] at z; exact Sum.inl.inj z)
   have a:pE (p::ps) (.inl k)=pE ps (.inl k):=by unfold pE; rw [List.find?_cons,decide_eq_false e1]
   have b:valueAt (q::qs) k=valueAt qs k:=by unfold valueAt; rw [List.find?_cons]; simp [e]
   rw [a,b]
   exact ih
theorem PT.val {H:Hp} {kvs:List (KX×V×V)} {xs:List (N1×Addr×Value)} (r:PT H kvs xs) (k:N1):nG (pE kvs (.inr k)) ((atKey xs k).map (·.2)):=by
 induction r with
 | nil=>exact True.intro
 | @cons p q ps qs h t ih =>
  by_cases e:q.1=k
  ·have e1:p.1=.inr k:=by rw [h.1,e]
   have a:pE (p::ps) (.inr k)=some p.2.2:=by unfold pE; rw [List.find?_cons,decide_eq_true e1]; rfl
   have b:atKey (q::qs) k=some q.2:=by unfold atKey; rw [List.find?_cons]; simp [e]
   rw [a,b]
   exact h.2.2.2
  ·have e1:¬ p.1=.inr k:=fun z=>e (by rw [h.1] at z; exact Sum.inr.inj z)
   have a:pE (p::ps) (.inr k)=pE ps (.inr k):=by unfold pE; rw [List.find?_cons,decide_eq_false e1]
   have b:atKey (q::qs) k=atKey qs k:=by unfold atKey; rw [List.find?_cons]; simp [e]
   rw [a,b]
   exact ih
theorem RT (kvs:List (KX×V×V)) (k:KX):kvs.any (fun p=>decide (p.1=k))=(pE kvs k).isSome:=by
 unfold pE
 rw [Option.isSome_map]
 induction kvs with
 | nil=>rfl
 | cons p ps ih =>
  rw [List.any_cons,List.find?_cons,ih]
  cases decide (p.1=k)<;>rfl
theorem PL.put {kvs:List (KX×V×V)} {vs:List (Key×Value)} (r:PL kvs vs) (k:Key) {v:V} {u:Value} (rv:RelV v u):PL (kK kvs (.inl k) (kV k) v) (stored vs k u):=by
 have e:kvs.any (fun p=>decide (p.1=.inl k))=vs.any (fun kv=>kv.1=k):=by
  induction r with
  | nil=>rfl
  | @cons p q ps qs h t ih =>
   rw [List.any_cons,List.any_cons,ih,h.1]
   congr 1
   exact decide_eq_decide.2 ⟨fun z=>Sum.inl.inj z,fun z=>by rw [z]⟩
 unfold kK stored
 rw [e]
 split
 ·rename_i hc
  clear hc e
  induction r with
  | nil=>exact .nil
  | @cons p q ps qs h t ih =>
   rw [List.map_cons,List.map_cons]
   refine .cons ?_ ih
   by_cases z:q.1=k
   ·rw [if_pos z,if_pos (by rw [h.1,z])]; exact ⟨h.1,h.2.1,rv⟩
   ·rw [if_neg z,if_neg (fun y=>z (by rw [h.1] at y; exact Sum.inl.inj y))]; exact h
 ·exact Paired.snoc r ⟨rfl,rfl,rv⟩
theorem PT.put {H:Hp} {kvs:List (KX×V×V)} {xs:List (N1×Addr×Value)} (r:PT H kvs xs) (k:N1) {b:Addr} {v:V} {u:Value} (hb:qF H k b) (rv:RelV v u):PT H (kK kvs (.inr k) (.ref b) v) (storedH xs k b u):=by
 have e:kvs.any (fun p=>decide (p.1=.inr k))=(atKey xs k).isSome:=by
  rw [RT]
  have:=(PT.val r k).yE
  rw [Option.isSome_map] at this
  exact this
 unfold kK storedH
 rw [e]
 split
 ·rename_i hc
  clear hc e
  induction r with
  | nil=>exact .nil
  | @cons p q ps qs h t ih =>
   rw [List.map_cons,List.map_cons]
   refine .cons ?_ ih
   unfold putAt
   by_cases z:q.1=k
   ·rw [if_pos z,if_pos (by rw [h.1,z])]; exact ⟨h.1,h.2.1,h.2.2.1,rv⟩
   ·rw [if_neg z,if_neg (fun y=>z (by rw [h.1] at y; exact Sum.inr.inj y))]; exact h
 ·exact Paired.snoc r ⟨rfl,rfl,hb,rv⟩
section
variable {P:Program} {w:World} {H:Hp} {h:Heap} {a:Addr} {o:Obj} {kvs:List (KX×V×V)}
end
section
variable {X:Cx} {pins:List (Addr×Obj)} {σ:L2.St} {H:Hp} {s:Shared} {a:Addr} {y v z:V} {u r:Value} {A:Around} {E:Value->Shared->Prop} {o:Obj} {kvs:List (KX×V×V)} {k:KX}
end
end L8
end
section
namespace L8
open PySem PySem.Spec PyProof.Rows L2 L7
section
variable {X:Cx} {o i e f value:Expr} {pos pos':Pos} {td ty tv tz:TE}
end
end L8
end
section
namespace L8
open PySem PySem.Spec PyProof.Rows L2 L3 L4
section
variable {K:PySem.W.Frag} {S:Addr->Prop} {H:Hp}
end
section
variable {X:Cx}
section
variable {o i:Expr} {pos:Pos} {fo fi:EF}
end
end
section
variable {X:Cx}
end
section
variable {X:Cx}
end
section
variable {X:Cx}
end
end L8
end
section
namespace L8
open PySem PySem.Spec PyProof.Rows L2 L3 L4 L5
section
variable {X:Cx}
end
end L8
end
section
namespace L8
open PySem PySem.Spec PyProof.Rows L2 L3 L4
section
variable {X:Cx}
section
variable {a b:Expr} {fa fb:EF} {pos:Pos}
end
end
end L8
end
section
namespace L9
open PySem PySem.Spec PyProof.Rows L2 L3 L4 L5
section
variable {X:Cx}
end
section
variable {X:Cx} {pins:List (Addr×Obj)} {σ:L2.St} {H:Hp} {s:Shared}
end
section
variable {X:Cx}
end
end L9
end
section
namespace L9
open PySem PySem.SeqAt PySem.Spec PyProof.Rows L2 L3 L4 L5
section
variable {X:Cx}
section
variable {o e:Expr} {fo fe:EF} {apos cpos:Pos}
end
end
end L9
end
section
namespace L9
open PySem PySem.Spec PyProof.Rows L2 L3 L4 L5
section
variable {X:Cx}
end
end L9
end
section
namespace L9
open PySem PySem.SeqAt PySem.Spec PyProof.Rows L2 L3 L4 L5
section
variable {X:Cx}
end
end L9
end
section
namespace L4
open PySem PySem.Spec PyProof.Rows L2 L3 PySem.W Att
section
variable {X:Cx} {pins:List (Addr×Obj)} {σ:L2.St} {H:Hp} {s:Shared}
end
section
variable {X:Cx} {pins:List (Addr×Obj)} {σ:L2.St} {H:Hp} {s:Shared} {P:List (Addr×Obj)} {f:Value} {t:V->Hp->VK->Prop} {xs:List V} {us:List Value} {a kS:Addr} {e1:Nat} {E:Value->Shared->Prop}
 {W:Nat->List V->Hp->Prop}
end
structure aLK (X:Cx) (x:Str) (fs:List Str) (fr:List Nat) (sc:Scope):Prop where
 kind:sc.kind=.function
 co:sc.isCoroutine=false
 gen:sc.isGenerator=false
 par:sc.names.lookup x=some .local
 aIM:∀ y∈sc.names,y.2≠.cell
 free:∀ y∈sc.names,y.2=.free->X.env.kindOf y.1=some .cell\/X.env.kindOf y.1=some .free
 slot:∀ (k:Nat) (y:Str),fs[k]? = some y -> ∃ j,fr[k]? = some j/\X.N[j]? = some y/\(y,NameKind.free)∈sc.names/\sc.names.lookup y=some .free
 FZ:fr.length=fs.length
section
variable {X:Cx} {pins:List (Addr×Obj)} {σ:L2.St} {H:Hp} {s:Shared}
end
section
variable {X:Cx}
end
section
variable {X:Cx}
end
theorem lC {K:PySem.W.Frag} {x:Str} (h:nsIn K mainGlobals x=some none):tabIn K x=none:=by
 unfold tabIn
 rw [h]
theorem MN {K:PySem.W.Frag} {r1 r2 r3 r4 r5:Option (Addr×Addr)} (h1:tabIn K "going_of" = r1) (h2:tabIn K "count_of_chain" = r2) (h3:tabIn K "cut_paper" = r3) (h4:tabIn K "downsets" = r4) (h5:tabIn K "strictest_chains" = r5) :
  eE K=([("going_of",r1),("count_of_chain",r2),("cut_paper",r3),("downsets",r4),("strictest_chains",r5)]:List (Str×Option (Addr×Addr))).filterMap fun p=>p.2.map fun t=>(p.1,t.1,t.2):=by
 subst h1 h2 h3 h4 h5
 rfl
theorem tabs_ok {K:PySem.W.Frag} {q:Program} {L:List (Str×Addr×Addr)} (h:eE K=L) (nd:(L.map (·.2.2)).Nodup) (rc:∀ t∈L,∃ e,(recsOf q).find? (fun e=>e.name == t.1)=some e):TabsOk K q:=⟨by rw [h]; exact nd,by rw [h]; exact rc⟩
end L4
end
section
namespace L4
open PySem PySem.Spec PyProof.Rows L2 L3
section
variable {prog:Program} {w:World} {A:Around} {E:Value->Shared->Prop} {s:Shared} {z TI TO i1 i2:Addr} {f1 f2:List Addr} {n1 n2 k:Nat} {P1 P2:Nat->Value->Prop} {S1 S2:Nat->Heap->Prop} {a b:Value}
structure Zap (z TI TO i1 i2:Addr) (f1 f2:List Addr):Prop where
 zO:z≠TO
 zI:z≠TI
 OI:TO≠TI
 m1:i1∈f1
 m2:i2∈f2
 z1:z∉f1
 z2:z∉f2
 o1:TO∉f1
 o2:TO∉f2
 c1:i1∉f2
 c2:i2∉f1
 I1:TI≠i1
 I2:TI≠i2
theorem Zap.q1 (p:Zap z TI TO i1 i2 f1 f2):z≠i1:=fun e=>p.z1 (e▸p.m1)
theorem Zap.q2 (p:Zap z TI TO i1 i2 f1 f2):z≠i2:=fun e=>p.z2 (e▸p.m2)
end
section
variable {X:Cx} {es:List Expr} {kk:Nat} {tp:Pos}
end
section
variable {X:Cx} {es:List Expr} {kk:Nat} {tp:Pos}
end
end L4
end
section
namespace L4
open PySem PySem.SeqAt PySem.Spec PyProof.Rows L2 L3
section
variable {X:Cx}
section
variable {o e:Expr} {fo fe:EF} {apos cpos:Pos}
end
end
end L4
end
section
namespace L4
open PySem PySem.Spec PyProof.Rows L2 L3 PySem.W Att
section
variable {X:Cx}
end
section
variable {X:Cx}
end
section
variable {X:Cx}
end
section
variable {X:Cx}
end
section
variable {X:Cx} {σ:L2.St}
variable {pins:List (Addr×Obj)} {H:Hp} {xs:List V} {l q It S:Addr} {t:V->Hp->VK->Prop} {R:Result->Shared->Prop}
end
section
variable {X:Cx}
end
end L4
end
section
namespace L6
open PySem PySem.Spec PyProof.Rows
section
variable {prog:Program} {w:World} {A:Around} {E:Value->Shared->Prop} {s:Shared}
end
section
open L2 L3 L4
variable {X:Cx}
end
end L6
end
section
namespace L4
open PySem PySem.Spec PyProof.Rows L2 L3 L5
noncomputable def fM1 (g:List D->Option D):F1:=fun ds Q=>∃ d,g ds=some d/\Q d
noncomputable def fM2 (g:D->D->Option D):F2:=fun x y Q=>∃ d,g x y=some d/\Q d
theorem tm1 (g:List D->Option D):qP (fM1 g) g:=fun _ d _ e q=>⟨d,e,q⟩
theorem tm2 (g:D->D->Option D):Tells (fM2 g) g:=fun _ _ d _ e q=>⟨d,e,q⟩
section
variable {X:Cx} {p pos:Pos} {e:Expr} {t:AF}
theorem JX {ds:List D} {d:D} {g:Str->Option D} {G:List D->Option D} (hG:∀ ds d,G ds=some d -> ∃ x,ds=[.str x]/\g x=some d) (h:G ds=some d) {K:PySem.W.Frag} {S:Addr->Prop} {H:Hp} {xs:List V} (hd:aR K S H ds xs):∃ x,xs=[.str x]/\g x=some d:=by
 obtain ⟨x,rfl,e⟩:=hG ds d h
 obtain ⟨v,r,rfl,h1,h2⟩:=hd.bR
 simp only [aR] at h2
 subst h2
 simp only [Dn] at h1
 subst h1
 exact ⟨x,rfl,e⟩
theorem VR {K:PySem.W.Frag}:C3 K (fun xs H Q=>∃ z:Str,xs=[.str z]/\z.length<=sizeLine/\Q (.int z.length) H) (fM1 B0):=by
 intro S H xs ds Q3 Q fc hd ⟨d,e,q⟩ k
 obtain ⟨x,rfl,e⟩:=JX (g:=fun x=>if x.length<=gX then some (.int x.length) else none) (fun ds d h=>by
  unfold B0 at h
  split at h
  ·exact ⟨_,rfl,h⟩
  ·cases h) e hd
 by_cases hz:x.length<=gX
 ·rw [if_pos hz] at e
  cases e
  exact ⟨x,rfl,by rw [sizeLine_eq]; exact hz,k _ H _ (Same.refl H) (by simp only [Dn]) q⟩
 ·rw [if_neg hz] at e; cases e
theorem XA (hm:X.mg "len" = none) (ha:xC X [e] t) (hg:Gl X "len" := by rfl) (he:starEach [e] X.env=(false,eval e X.env)::starEach [] X.env:=by rfl):bO X (.Call (.Name "len" p) [e] [] pos) (bA B0 t) :=
 cE (AZ AS VR PySem.boot_len hg hm ha (by decide) (by decide) he (by rfl)) (A6 (tm1 _))
theorem aA0 {K:PySem.W.Frag}:C3 K (fun xs H Q=>∃ i:Int,xs=[.int i]/\i.natAbs.log2<1920/\Q (.str (toString i)) H) (fM1 jB):=by
 intro S H xs ds Q3 Q fc hd ⟨d,e,q⟩ k
 unfold jB at e
 split at e
 ·rename_i i
  obtain ⟨v,r,rfl,h1,h2⟩:=hd.bR
  simp only [aR] at h2
  subst h2
  simp only [Dn] at h1
  subst h1
  by_cases hz:i.natAbs<1900
  ·rw [if_pos hz] at e
   cases e
   refine ⟨i,rfl,?_,k _ H _ (Same.refl H) (by simp only [Dn]) q⟩
   exact Nat.lt_of_le_of_lt (Nat.log2_le_self _) (by omega)
  ·rw [if_neg hz] at e; cases e
 ·cases e
theorem JY (hc:X.calm=true) (hm:X.mg "str" = none) (ha:xC X [e] t) (hg:Gl X "str" := by rfl) (he:starEach [e] X.env=(false,eval e X.env)::starEach [] X.env:=by rfl):bO X (.Call (.Name "str" p) [e] [] pos) (bA jB t) :=
 cE (A1 AK aA0 PyProof.Rows.boot_str hg hm ha (by decide) (by decide) he (by rfl)) (A6 (tm1 _))
theorem VS:∀ c:Nat,c<58->48<=c->PySem.intText? ⟨#[c]⟩=some ((c:Int) - 48):=by decide +kernel
theorem RU:fK X (.type "int") (fun xs H Q=>∃ x:Str,∃ n:Int,xs=[.str x]/\x.length<=640/\PySem.intText? x=some n/\Q (.int n) H):=by
 intro pins s σ H xs us Q I r h
 obtain ⟨x,n,rfl,hl,hn,q⟩:=h
 obtain ⟨u,rfl,t,rfl⟩:=vals1 r
 exact PySem.W.KIN.call_text hn hl ⟨.int n,H,I.tok _,⟨_,rfl⟩,q⟩
theorem aA1 {K:PySem.W.Frag}:C3 K (fun xs H Q=>∃ x:Str,∃ n:Int,xs=[.str x]/\x.length<=640/\PySem.intText? x=some n/\Q (.int n) H) (fM1 ET):=by
 intro S H xs ds Q3 Q fc hd ⟨d,e,q⟩ k
 obtain ⟨x,rfl,e⟩:=JX (g:=fun x=>match x.cps.toList with | [c]=>if 48<=c/\c<=57 then some (.int ((c:Int) - 48)) else none | _=>none) (fun ds d h=>by
  unfold ET at h
  split at h
  ·exact ⟨_,rfl,h⟩
  ·cases h) e hd
 obtain ⟨⟨cs⟩⟩:=x
 match cs,e with
 | [c],e =>
  have e:(if 48<=c/\c<=57 then some (D.int ((c:Int) - 48)) else none)=some d:=e
  by_cases hz:48<=c/\c<=57
  ·rw [if_pos hz] at e
   cases e
   exact ⟨_,_,rfl,by show 1<=640; decide,VS c (by omega) hz.1,k _ H _ (Same.refl H) (by simp only [Dn]) q⟩
  ·rw [if_neg hz] at e; cases e
 | [],e=>cases e
 | _::_::_,e=>cases e
theorem aA2 (hc:X.calm=true) (hm:X.mg "int" = none) (ha:xC X [e] t) (hg:Gl X "int" := by rfl) (he:starEach [e] X.env=(false,eval e X.env)::starEach [] X.env:=by rfl):bO X (.Call (.Name "int" p) [e] [] pos) (bA ET t) :=
 cE (A1 RU aA1 PyProof.Rows.boot_int hg hm ha (by decide) (by decide) he (by rfl)) (A6 (tm1 _))
end
section
variable {X:Cx} {pos:Pos} {a b:Expr} {fa fb:EF}
theorem G6 {K:PySem.W.Frag} {r:R2} {g:D->D->Option D} (h:∀ (dx dy d:D),g dx dy=some d->d.tJ=true /\ ∀ (S:Addr->Prop) (H:Hp) (x y:V) (Q:VK),Dn K S H dx x->Dn K S H dy y->(∀ v,Dn K S H d v->Q v H)->r x y H Q):O3 K r (fM2 g):=by
 intro S H x y dx dy Q3 Q fc hx hy ⟨d,e,q⟩ k
 exact (h dx dy d e).2 S H x y Q hx hy fun v dv=>k v H d (Same.refl H) dv q
theorem aA3 {K:PySem.W.Frag}:O3 K aBh (fM2 tO):=G6 fun dx dy d e=>by
 unfold tO at e
 split at e
 ·rename_i x i
  by_cases hz:x.length<=gX
  ·rw [if_pos hz] at e
   obtain ⟨c,ec,rfl⟩:=xD e
   refine ⟨rfl,fun S H v w Q hx hy k=>?_⟩
   simp only [Dn] at hx hy
   exact ⟨x,i,c,hx,hy,by rw [sizeLine_eq]; exact hz,ec,k _ (by simp only [Dn])⟩
  ·rw [if_neg hz] at e; cases e
 ·cases e
theorem RV (ha:bO X a fa) (hb:bO X b fb) (hs:tG b:=by intro _ _; rfl):bO X (.Subscript a b pos) (aE tO fa fb):=cE (imp (WR Y9 ha hb hs) fun _ _ _=>kT aA3) (hV (tm2 _))
theorem aA4 {K:PySem.W.Frag}:O3 K (fun x y H Q=>∃ i j:Str,x=.str i/\y=.str j/\Q (.bl (!(Builtin.Str.occurrences j i 0 j.length 1).isEmpty)) H) (fM2 SH):=G6 fun dx dy d e=>by
 unfold SH at e
 split at e
 ·cases e
  refine ⟨rfl,fun S H v w Q hx hy k=>?_⟩
  simp only [Dn] at hx hy
  exact ⟨_,_,hx,hy,k _ (by simp only [Dn])⟩
 ·cases e
theorem aIP (ha:bO X a fa) (hb:bO X b fb) (hm:behindInMarks .In b=false:=by with_unfolding_all rfl):bO X (.Compare a [.In] [b] pos) (aE SH fa fb):=cE (UW KZ aA4 ha hb hm) (hV (tm2 _))
theorem VT {K:PySem.W.Frag}:O3 K (fun x y H Q=>∃ i j:Str,x=.str i/\y=.str j/\i.length+j.length<=sizeLine/\Q (.str (i++j)) H) (fM2 B1):=G6 fun dx dy d e=>by
 unfold B1 at e
 split at e
 ·rename_i x y
  by_cases hz:x.length+y.length<=gX
  ·rw [if_pos hz] at e
   cases e
   refine ⟨rfl,fun S H v w Q hx hy k=>?_⟩
   simp only [Dn] at hx hy
   exact ⟨_,_,hx,hy,by rw [sizeLine_eq]; exact hz,k _ (by simp only [Dn])⟩
  ·rw [if_neg hz] at e; cases e
 ·cases e
theorem XB (ha:bO X a fa) (hb:bO X b fb):bO X (.BinOp a .Add b pos) (aE B1 fa fb):=cE (ZJ uS VT ha hb) (hV (tm2 _))
end
noncomputable def rJoin (K:PySem.W.Frag):V->List V->Hp->VK->Prop:=fun x xs H Q=>∃ (z:Str) (l:Addr) (ys:List Str),x=.str z/\xs=[.ref l]/\H l=some (.lst (ys.map V.str))/\(ys.map (·.length)).sum+ys.length*z.length<=16777216/\Q (.str (Txt.join z ys)) H
theorem DX:∀ {ys:List Str} {us:List Value},Vals (ys.map V.str) us->StrsAre us ys
 | [],_,h=>by cases h; exact .nil
 | y::ys,_,h=>by
  cases h with
  | cons r1 r2 =>
   obtain ⟨t,rfl⟩:=r1
   exact .cons y t (DX r2)
section
variable {X:Cx}
theorem VU:MtR X "str.join" (rJoin X.K):=by
 intro pins s σ H x xs v us Q I rx r h
 obtain ⟨z,l,ys,rfl,rfl,hl,hz,q⟩:=h
 obtain ⟨u,rfl,ru⟩:=vals1 r
 cases ru
 obtain ⟨t,rfl⟩:=rx
 obtain ⟨its,rv,pl,_⟩:=I.list (fS.of hl)
 exact PyProof.Rows.join_list pl.isList (DX rv) hz fun t' k=>⟨.str _,H,I.tok k,⟨_,rfl⟩,q⟩
theorem yW:∀ {ds:List D} {ys:List Str},tP ds=some ys->ds=ys.map D.str
 | [],ys,h=>by cases h; rfl
 | d::ds,ys,h=>by
  cases d<;>first | (cases h; done) | skip
  rename_i x
  obtain ⟨z,e,rfl⟩:=xD (show (tP ds).map (x :: ·)=some ys from h)
  rw [yW e]; rfl
theorem vK {K:PySem.W.Frag} {S:Addr->Prop} {H:Hp}:∀ {ys:List Str} {xs:List V},aR K S H (ys.map D.str) xs->xs=ys.map V.str
 | [],xs,h=>by simpa only [List.map_nil,aR] using h
 | y::ys,xs,h=>by
  obtain ⟨v,r,rfl,h1,h2⟩:=h.bR
  simp only [Dn] at h1
  subst h1
  rw [vK h2]; rfl
theorem VV {a b d:D} (h:joinM a b=some d):∃ z ys,a=.str z/\b=.lst (ys.map D.str)/\(ys.map (·.length)).sum+ys.length*z.length<=gX/\d=.str (Txt.join z ys):=by
 unfold joinM at h
 split at h
 ·rename_i z ds
  obtain ⟨ys,eys,h⟩:=bnd h
  split at h
  ·rename_i hz
   cases h
   exact ⟨z,ys,rfl,by rw [yW eys],hz,rfl⟩
  ·cases h
 ·cases h
theorem VW {a b c d:D} (h:NQ a b c=some d):∃ x y z,a=.str x/\b=.str y/\c=.str z/\x.length+y.length+z.length<=gX/\d=.str (Str.empty++x++y++z):=by
 unfold NQ at h
 split at h
 ·split at h
  ·rename_i hz
   cases h
   exact ⟨_,_,_,rfl,rfl,rfl,hz,rfl⟩
  ·cases h
 ·cases h
theorem XD {o e:Expr} {fo fe:EF} {apos cpos:Pos} (ho:bO X o fo) (he:bO X e fe) (hbase:attributeBase o "join" X.env (eval o X.env)=eval o X.env:=by rfl)
  (hfew:((backTo cpos (starEach [e] X.env)).all (fun x=>!x.1)&&(backToKw cpos (keywordEach [] X.env)).all (fun x=>x.1.isSome)
   && decide ([e].length+([]:List Keyword).length+(if ([]:List Keyword).isEmpty then 0 else 1)<30))=true:=by rfl)
  (hline:(apos.endLine == cpos.line)=true:=by rfl) (hs:starEach [e] X.env=(false,eval e X.env)::starEach [] X.env:=by rfl) (hplain:(backTo cpos (starEach [] X.env)).any (·.1)=false:=by rfl) :
  bO X (.Call (.Attribute o "join" apos) [e] [] cpos) (aE joinM fo fe) :=
 imp (IZ F.plainAttrs_str F.slot_str_join F.type_str_join VU ho (gO he kP hs) hbase hfew hline hs hplain) fun σ H Q aDQ=>by
  obtain ⟨S,ρ,Q3,fc,sl,⟨d,ed,q3⟩,k⟩:=aDQ
  obtain ⟨dx,ex,ed⟩:=bnd ed
  obtain ⟨dy,ey,ed⟩:=bnd ed
  obtain ⟨z,ys,rfl,rfl,hz,rfl⟩:=VV ed
  refine ⟨S,ρ,fun w=>w=.str z,fc,sl,⟨_,ex,rfl⟩,fun v H1 d1 s1 dn1 q1=>?_⟩
  subst q1
  simp only [Dn] at dn1
  subst dn1
  refine ⟨rfl,S,ρ,fun w=>w=.lst (ys.map D.str),aW fc s1,Sl.fits (.same s1) sl,⟨_,ey,rfl⟩,fun v2 H2 d2 s2 NB q2=>?_⟩
  subst q2
  simp only [Dn] at NB
  obtain ⟨l,xs,rfl,hl,_,dl⟩:=NB
  rw [vK dl] at hl
  exact ⟨z,l,ys,rfl,rfl,hl,hz,k _ H2 _ (s1.trans s2) (by simp only [Dn]) q3⟩
theorem XE {e:Expr} {f:EF} {pos:Pos} (he:bO X e f):bO X (.FormattedValue e (-1) none pos) (bA jB (aA f aC)):=by
 intro pins s σ H Q I ⟨S,ρ,Q3,fc,sl,⟨d,ed,q3⟩,k⟩
 obtain ⟨ds,e1,ed⟩:=bnd ed
 obtain ⟨d0,e0,e1⟩:=bnd e1
 cases e1
 unfold jB at ed
 split at ed
 ·rename_i i heq
  cases heq
  by_cases hz:i.natAbs<1900
  ·rw [if_pos hz] at ed
   cases ed
   refine FormattedValue_plain (eP (he pins s σ H (fun x H1=>Same H H1/\x=.int i) I ⟨S,ρ,fun d=>d=.int i,fc,sl,⟨_,e0,rfl⟩,fun v H' d s' d' q'=>by subst q'; simp only [Dn] at d'; exact ⟨s',d'⟩⟩) fun v s1 ⟨x,H1,I1,r1,s1',ex⟩=>?_)
   subst ex
   obtain ⟨t,rfl⟩:=r1
   exact formatField_int_small (Nat.lt_of_le_of_lt (Nat.log2_le_self _) (by omega)) ⟨.str _,H1,(I1.tok _).tok _,⟨_,rfl⟩,k _ H1 _ s1' (by simp only [Dn]) q3⟩
  ·rw [if_neg hz] at ed; cases ed
 ·cases ed
theorem aDR {a b c:Expr} {fa fb fc':EF} {pos:Pos} (ha:bO X a fa) (hb:bO X b fb) (hc:bO X c fc'):bO X (.JoinedStr [a,b,c] pos) (HN fa fb fc'):=by
 intro pins s σ H Q I ⟨S,ρ,Q3,fc,sl,⟨d,ed,q3⟩,k⟩
 obtain ⟨dx,ex,ed⟩:=bnd ed
 obtain ⟨dy,ey,ed⟩:=bnd ed
 obtain ⟨dz,ez,ed⟩:=bnd ed
 obtain ⟨x,y,z,rfl,rfl,rfl,hz,rfl⟩:=VW ed
 have hz':x.length+y.length+z.length<=sizeLine:=by rw [sizeLine_eq]; exact hz
 have e0:(Str.empty++x).length=x.length:=by rw [strLen_append]; show 0+_=_; omega
 have e1:(Str.empty++x++y).length=x.length+y.length:=by rw [strLen_append,e0]
 have e2:(Str.empty++x++y++z).length=x.length+y.length+z.length:=by rw [strLen_append,e1]
 refine JoinedStr_many (joinParts_cons (eP (ha pins s σ H (fun v H1=>Same H H1/\v=.str x) I ⟨S,ρ,fun d=>d=.str x,fc,sl,⟨_,ex,rfl⟩,fun v H' d s' d' q'=>by subst q'; simp only [Dn] at d'; exact ⟨s',d'⟩⟩) fun v s1 ⟨u,H1,I1,r1,s1',eu⟩=>?_))
 subst eu
 obtain ⟨t,rfl⟩:=r1
 refine ⟨by rw [e0]; omega,joinParts_cons (eP (hb pins s1 σ H1 (fun v H2=>Same H1 H2/\v=.str y) I1 ⟨S,ρ,fun d=>d=.str y,aW fc s1',Sl.fits (.same s1') sl,⟨_,ey,rfl⟩,fun v H' d s' d' q'=>by subst q'; simp only [Dn] at d'; exact ⟨s',d'⟩⟩) fun v s2 ⟨u,H2,I2,r2,s2',eu⟩=>?_)⟩
 subst eu
 obtain ⟨t,rfl⟩:=r2
 refine ⟨by rw [e1]; omega,?_⟩
 show wpAny _ _ (joinParts _ [eval c X.env]) _ _ _
 have s12:=s1'.trans s2'
 refine joinParts_cons (eP (hc pins s2 σ H2 (fun v H3=>Same H2 H3/\v=.str z) I2 ⟨S,ρ,fun d=>d=.str z,aW fc s12,Sl.fits (.same s12) sl,⟨_,ez,rfl⟩,fun v H' d s' d' q'=>by subst q'; simp only [Dn] at d'; exact ⟨s',d'⟩⟩) fun v s3 ⟨u,H3,I3,r3,s3',eu⟩=>?_)
 subst eu
 obtain ⟨t,rfl⟩:=r3
 exact ⟨by rw [e2]; exact hz',joinParts_nil ⟨.str _,H3,I3.tok _,⟨_,rfl⟩,k _ H3 _ (s12.trans s3') (by simp only [Dn]) q3⟩ (by rw [e2]; exact hz')⟩
theorem cS4 {x:Str} {z:Str} {t:Tok} {pos:Pos} (hm:X.mg x=some (.str z t)) (hg:Gl X x:=by rfl) (hd:(x == ("__debug__" : Str))=false:=by decide):bO X (.Name x pos) (eC (.str z)) :=
 cE (imp (TX hg hm (v:=.str z) ⟨t,rfl⟩ hd) fun _ _ _=>uW (d:=.str z) (fun _ _=>by simp only [Dn])) fun _ _ aDS=>by obtain ⟨_,e,q⟩:=aDS; cases e; exact q
end
end L4
end
section
namespace K06
open PySem L2 L3 L4 L6 L7 L8 L9 L5
noncomputable def top (i : Nat) : Stmt := PySem.Challenge.pw_risecount_k06_written_and_read.main.body.getD i (.Pass ⟨0, 0, 0, 0⟩)
section
variable {P:Program} {w:World} {K:PySem.W.Frag} {mg:Str->Option Value} {base:Heap} {f:Addr} {fd:FuncData}
noncomputable abbrev gH:Stmt:=top 6
theorem sE:bJ ["number", "n"] ["number", "n"] (aI gH):=⟨rfl,rfl,rfl,by decide +kernel,rfl,by decide +kernel,by decide +kernel⟩
theorem DY {kk:Nat} (F:nL K "is_thing" "is_thing" gH f fd):aU P w K mg base d8 (kk+1) f fd ["number", "n"] (eS K LL.fH):=by
 refine jH F sE rfl rfl (fun cdv A outer s H E hr=>?_)
 have nd:=sE.nd
 exact (bG (fW (aAE aB6 WK aCh aCg i4 (x4 0) (x4 1))))
noncomputable abbrev iB:Stmt:=top 7
theorem vL:bJ ["order", "ties", "b", "row"] ["order"] (aI iB):=⟨rfl,rfl,rfl,by decide +kernel,rfl,by decide +kernel,by decide +kernel⟩
theorem G7 {kk:Nat} (F:nL K "ties_of" "ties_of" iB f fd) (d9:mg "sorted" = none) (bX:mg "tuple" = none) (dN:mg "enumerate" = none):aU P w K mg base d8 (kk+1) f fd ["order"] (eS K LL.eA):=by
 refine jH F vL rfl rfl (fun cdv A outer s H E hr=>?_)
 have nd:=vL.nd
 exact (bU (DC (i:=1) nd (sR aP))
  (bU (vC rfl PassesOwn.never (nP dN (aG (x4 0) aP)) (yL (i:=2) (j:=3) rfl nd)
   (bG (mI (JL (i:=1) (A8 (j6.pe (kC (ls:=["a"]) (fs:=["b"]) (fr:=[2]) rfl (kB (x4 3)) (fun _ _ _ _ _ _ nd=>jG (i:=0) nd (by decide)) (fun _ _ _ _ _ _=>mH) (fun _ _ _ _ _ _=>(GO (aG (x4 0) (aG (x4 1) aP)))))))))))
  (bG (fW (nM bX (aG (j6.pe (DI d9 (aG (x4 1) aP))) aP))))))
noncomputable abbrev iC:Stmt:=top 9
theorem vM:bJ ["order", "tie", "lower", "upper"] ["order", "tie"] (aI iC):=⟨rfl,rfl,rfl,by decide +kernel,rfl,by decide +kernel,by decide +kernel⟩
theorem G8 {kk:Nat} (F:nL K "is_bare" "is_bare" iC f fd) (yX:mg "any" = none):aU P w K mg base d8 (kk+1) f fd ["order", "tie"] (eS K fJ):=by
 refine jH F vM rfl rfl (fun cdv A outer s H E hr=>?_)
 have nd:=vM.nd
 exact (bU (gG (i:=2) nd (qO (x4 1) i4))
  (bU (gG (i:=3) nd (qO (x4 1) i4))
  (bG (fW (aCk (aCu rfl yX (aG (j6.pe (kC (ls:=["between"]) (fs:=["lower", "order"]) (fr:=[2,0]) rfl (kB (qO (x4 0) (x4 3))) (fun _ _ _ _ _ _ nd=>jG (i:=0) nd (by decide)) (fun _ _ _ _ _ _=>mH) (fun _ _ _ _ _ _=>(in4 (x4 1) (qO (x4 2) (x4 0)))))) aP)))))))
noncomputable abbrev fL:Stmt:=top 8
theorem pF:bJ ["order"] ["order"] (aI fL):=⟨rfl,rfl,rfl,by decide +kernel,rfl,by decide +kernel,by decide +kernel⟩
theorem BG {kk:Nat} {g1 g2:Addr} {d1 d2:FuncData} (F:nL K "bare_ties" "bare_ties" fL f fd) (MO:aU P w K mg base d8 kk g1 d1 ["order", "tie"] (eS K fJ)) (MP:mg "is_bare" = some (.ref g1)) (MQ:PySem.W.keepIn K (.ref g1)=true) (MR:Binds K d1 ["order", "tie"] []) (MS:aU P w K mg base d8 kk g2 d2 ["order"] (eS K LL.eA)) (MT:mg "ties_of" = some (.ref g2)) (MU:PySem.W.keepIn K (.ref g2)=true) (MV:Binds K d2 ["order"] []) (bX:mg "tuple" = none):aU P w K mg base d8 (kk+1) f fd ["order"] (eS K cZ):=by
 refine jH F pF rfl rfl (fun cdv A outer s H E hr=>?_)
 have nd:=pF.nd
 exact (bG (fW (nM bX (aG (j6.pe (kC (ls:=["tie"]) (fs:=["order"]) (fr:=[0]) rfl (kB (cB MS hr MT MU MV (aG (x4 0) aP))) (fun _ _ _ _ _ _ nd=>jG (i:=0) nd (by decide)) (fun _ _ _ _ _ _=>QR (qN (cB MO hr MP MQ MR (aG (x4 1) (aG (x4 0) aP))))) (fun _ _ _ _ _ _=>(x4 0)))) aP))))
noncomputable abbrev bY:Stmt:=top 12
theorem hW:bJ ["n", "a", "b"] ["n", "a", "b"] (aI bY):=⟨rfl,rfl,rfl,by decide +kernel,rfl,by decide +kernel,by decide +kernel⟩
theorem mB {kk:Nat} {g1:Addr} {d1:FuncData} (F:nL K "refuse_strangers" "refuse_strangers" bY f fd) (vN:aU P w K mg base d8 kk g1 d1 ["number", "n"] (eS K LL.fH)) (vO:mg "is_thing" = some (.ref g1)) (vP:PySem.W.keepIn K (.ref g1)=true) (vQ:Binds K d1 ["number", "n"] []) {jP:Addr} (qT:mg "NoThing" = some (.ref jP)) (qU:VL K jP):aU P w K mg base (BE P w) (kk+1) f fd ["n", "a", "b"] (Q7 K mg LL.aJ):=by
 refine aCy F hW rfl rfl (fun cdv A outer s H E hr=>?_)
 have nd:=hW.nd
 exact (bG (lZ (GN.pt (LR (rZ (qN (cB vN hr vO vP vQ (aG (x4 1) (aG (x4 0) aP))))) (LQ (rZ (qN (cB vN hr vO vP vQ (aG (x4 2) (aG (x4 0) aP))))))))
   (bG (Q9 rfl rfl qT qU (aG s4 aP)))
   nQ))
noncomputable abbrev fN:Stmt:=top 11
theorem pG:bJ ["order", "a", "b", "lower", "rows", "thing", "row", "reached"] ["order", "a", "b"] (aI fN):=⟨rfl,rfl,rfl,by decide +kernel,rfl,by decide +kernel,by decide +kernel⟩
theorem BH {kk:Nat} {g1:Addr} {d1:FuncData} (F:nL K "put_under" "put_under" fN f fd) (dU:aU P w K mg base (BE P w) kk g1 d1 ["n", "a", "b"] (Q7 K mg LL.aJ)) (dW:mg "refuse_strangers" = some (.ref g1)) (dY:PySem.W.keepIn K (.ref g1)=true) (dZ:Binds K d1 ["n", "a", "b"] []) {lD:Addr} (vR:mg "Looped" = some (.ref lD)) (vS:VL K lD) (bX:mg "tuple" = none) (dN:mg "enumerate" = none) (d9:mg "sorted" = none) (RW:mg "set" = none) (bS:mg "len" = none):aU P w K mg base (BE P w) (kk+1) f fd ["order", "a", "b"] (Q7 K mg LL.bW):=by
 refine aCy F pG rfl rfl (fun cdv A outer s H E hr=>?_)
 have nd:=pG.nd
 exact (bU (aAS (Q8 dU hr dW dY dZ (aG (oX bS (aG (x4 0) aP)) (aG (x4 1) (aG (x4 2) aP)))) (aAQ rfl dU hr dW dY dZ (aG (oX bS (aG (x4 0) aP)) (aG (x4 1) (aG (x4 2) aP)))))
  (bU (lZ (GN.pt (LR (QO (x4 1) (x4 2)) (LQ (aH9 (x4 2) (qO (x4 0) (x4 1))))))
   (bG (Q9 rfl rfl vR vS (aG s4 aP)))
   nQ)
  (bU (gG (i:=3) nd (kZ (qO (x4 0) (x4 1)) (GO (aG (x4 1) aP))))
  (bU (DC (i:=4) nd (sR aP))
  (bU (aDH (vC rfl PassesOwn.never (nP dN (aG (x4 0) aP)) (yL (i:=5) (j:=6) rfl nd)
   (bU (gG (i:=7) nd (or4 (eq4 (x4 5) (x4 2)) (C9 (in4 (x4 2) (x4 6)))))
   (bG (mI (LY (i:=4) (A8 (if4 (qN (x4 7)) (nM bX (aG (j6.pe (G3 rfl d9 RW (aG (kZ (x4 6) (x4 3)) aP))) aP)) (x4 6)))))))))
  (bG (fW (nM bX (aG (x4 4) aP)))))))))
noncomputable abbrev gJ:Stmt:=top 10
theorem sF:bJ ["n", "ties", "a", "b", "order"] ["n", "ties"] (aI gJ):=⟨rfl,rfl,rfl,by decide +kernel,rfl,by decide +kernel,by decide +kernel⟩
theorem DZ {kk:Nat} {g1 g2:Addr} {d1 d2:FuncData} (F:nL K "order_of" "order_of" gJ f fd) (D0:aU P w K mg base (BE P w) kk g1 d1 ["order", "a", "b"] (Q7 K mg LL.bW)) (D1:mg "put_under" = some (.ref g1)) (D2:PySem.W.keepIn K (.ref g1)=true) (D3:Binds K d1 ["order", "a", "b"] []) (dU:aU P w K mg base (BE P w) kk g2 d2 ["n", "a", "b"] (Q7 K mg LL.aJ)) (dW:mg "refuse_strangers" = some (.ref g2)) (dY:PySem.W.keepIn K (.ref g2)=true) (dZ:Binds K d2 ["n", "a", "b"] []):aU P w K mg base d8 (kk+1) f fd ["n", "ties"] (eS K cP):=by
 refine jH F sF rfl rfl (fun cdv A outer s H E hr=>?_)
 have nd:=sF.nd
 exact (bU (vC rfl PassesOwn.never (kB (x4 1)) (yL (i:=2) (j:=3) rfl nd)
   (bG (mI (A8 (Q8 dU hr dW dY dZ (aG (x4 0) (aG (x4 2) (aG (x4 3) aP))))))))
  (bU (gG (i:=4) nd (aDM (GO (aG (GO aP) aP)) (x4 0)))
  (bU (vC rfl PassesOwn.never (kB (x4 1)) (yL (i:=2) (j:=3) rfl nd)
   (bG (gG (i:=4) nd (Q8 D0 hr D1 D2 D3 (aG (x4 4) (aG (x4 2) (aG (x4 3) aP)))))))
  (bG (fW (x4 4))))))
noncomputable abbrev eX:Stmt:=top 15
theorem mK:bJ ["order", "words"] ["order"] (aI eX):=⟨rfl,rfl,rfl,by decide +kernel,rfl,by decide +kernel,by decide +kernel⟩
theorem xF {kk:Nat} {g1:Addr} {d1:FuncData} (F:nL K "order_text" "order_text" eX f fd) (D4:aU P w K mg base d8 kk g1 d1 ["order"] (eS K cZ)) (D5:mg "bare_ties" = some (.ref g1)) (D6:PySem.W.keepIn K (.ref g1)=true) (D7:Binds K d1 ["order"] []) (bS:mg "len" = none) (kD:mg "str" = none):aU P w K mg base d8 (kk+1) f fd ["order"] (eS K eW):=by
 refine jH F mK rfl rfl (fun cdv A outer s H E hr=>?_)
 have nd:=mK.nd
 exact (bU (DC (i:=1) nd (sR (aG (JY rfl kD (aG (oX bS (aG (x4 0) aP)) aP)) aP)))
  (bU (mI (JL (i:=1) (A8 (j6.pe (kC (ls:=["a", "b"]) (fs:=[]) (fr:=[]) rfl (kB (cB D4 hr D5 D6 D7 (aG (x4 0) aP))) (fun _ _ _ _ _ _ nd=>QQ (i:=0) (j:=1) rfl nd (by decide) (by decide)) (fun _ _ _ _ _ _=>mH) (fun _ _ _ _ _ _=>(aDR (XE (x4 0)) s4 (XE (x4 1)))))))))
  (bG (fW (XD s4 (x4 1))))))
noncomputable abbrev fO:Stmt:=top 17
theorem pH:bJ ["text"] ["text"] (aI fO):=⟨rfl,rfl,rfl,by decide +kernel,rfl,by decide +kernel,by decide +kernel⟩
theorem BI {kk:Nat} (F:nL K "is_figure" "is_figure" fO f fd) {qV:Tok} (qW:mg "FIGURES" = some (.str "0123456789" qV)) (bS:mg "len" = none):aU P w K mg base d8 (kk+1) f fd ["text"] (eS K dM):=by
 refine jH F pH rfl rfl (fun cdv A outer s H E hr=>?_)
 have nd:=pH.nd
 exact (bG (fW (vA (eq4 (XA bS (aG (x4 0) aP)) i4) (C9 (aIP (x4 0) (cS4 qW))))))
noncomputable abbrev eD:Stmt:=top 18
theorem lE:bJ ["word"] ["word"] (aI eD):=⟨rfl,rfl,rfl,by decide +kernel,rfl,by decide +kernel,by decide +kernel⟩
theorem vT {kk:Nat} {g1:Addr} {d1:FuncData} (F:nL K "is_tie_word" "is_tie_word" eD f fd) (i5:aU P w K mg base d8 kk g1 d1 ["text"] (eS K dM)) (i6:mg "is_figure" = some (.ref g1)) (i7:PySem.W.keepIn K (.ref g1)=true) (i8:Binds K d1 ["text"] []) (bS:mg "len" = none):aU P w K mg base d8 (kk+1) f fd ["word"] (eS K eB):=by
 refine jH F lE rfl rfl (fun cdv A outer s H E hr=>?_)
 have nd:=lE.nd
 exact (bG (fW (vA (eq4 (XA bS (aG (x4 0) aP)) i4) (vA (cB i5 hr i6 i7 i8 (aG (RV (x4 0) i4) aP)) (vA (eq4 (RV (x4 0) i4) s4) (C9 (cB i5 hr i6 i7 i8 (aG (RV (x4 0) i4) aP))))))))
noncomputable abbrev eZ:Stmt:=top 16
theorem mL:bJ ["text", "words", "tie_words", "ties"] ["text"] (aI eZ):=⟨rfl,rfl,rfl,by decide +kernel,rfl,by decide +kernel,by decide +kernel⟩
theorem xG {kk:Nat} {g1 g2 g3:Addr} {d1 d2 d3:FuncData} (F:nL K "read_order" "read_order" eZ f fd) (G9:aU P w K mg base d8 kk g1 d1 ["n", "ties"] (eS K cP)) (HA:mg "order_of" = some (.ref g1)) (HB:PySem.W.keepIn K (.ref g1)=true) (HC:Binds K d1 ["n", "ties"] []) (xH:aU P w K mg base d8 kk g2 d2 ["word"] (eS K eB)) (xI:mg "is_tie_word" = some (.ref g2)) (xJ:PySem.W.keepIn K (.ref g2)=true) (xK:Binds K d2 ["word"] []) (i5:aU P w K mg base d8 kk g3 d3 ["text"] (eS K dM)) (i6:mg "is_figure" = some (.ref g3)) (i7:PySem.W.keepIn K (.ref g3)=true) (i8:Binds K d3 ["text"] []) (mO:mg "int" = none) (bX:mg "tuple" = none) (vU:mg "all" = none):aU P w K mg base d8 (kk+1) f fd ["text"] (eS K dS):=by
 refine jH F mL rfl rfl (fun cdv A outer s H E hr=>?_)
 have nd:=mL.nd
 exact (bU (gG (i:=1) nd (j6.pe (aAU (x4 0) s4)))
  (bU (gG (i:=2) nd (sl4 (x4 1) (po4 i4) no4))
  (bU (lZ (GN.pt (LR (rZ (qN (cB i5 hr i6 i7 i8 (aG (qO (x4 1) i4) aP)))) (LQ (rZ (qN (aCv rfl vU (aG (j6.pe (kC (ls:=["word"]) (fs:=[]) (fr:=[]) rfl (kB (x4 2)) (fun _ _ _ _ _ _ nd=>jG (i:=0) nd (by decide)) (fun _ _ _ _ _ _=>mH) (fun _ _ _ _ _ _=>(cB xH hr xI xJ xK (aG (x4 0) aP))))) aP)))))))
   (bG aAL)
   nQ)
  (bU (gG (i:=3) nd (nM bX (aG (j6.pe (kC (ls:=["word"]) (fs:=[]) (fr:=[]) rfl (kB (x4 2)) (fun _ _ _ _ _ _ nd=>jG (i:=0) nd (by decide)) (fun _ _ _ _ _ _=>mH) (fun _ _ _ _ _ _=>(GO (aG (aA2 rfl mO (aG (RV (x4 0) i4) aP)) (aG (aA2 rfl mO (aG (RV (x4 0) i4) aP)) aP)))))) aP)))
  (bG (fW (cB G9 hr HA HB HC (aG (aA2 rfl mO (aG (qO (x4 1) i4) aP)) (aG (x4 3) aP)))))))))
noncomputable abbrev jQ:Stmt:=top 20
theorem yY:bJ ["_law_script", "_law_k"] ["_law_script", "_law_k"] (aI jQ):=⟨rfl,rfl,rfl,by decide +kernel,rfl,by decide +kernel,by decide +kernel⟩
theorem MW {kk:Nat} (F:nL K "_law_cell" "_law_cell" jQ f fd) (bS:mg "len" = none):aU P w K mg base d8 (kk+1) f fd ["_law_script", "_law_k"] (eS K LL.dB):=by
 refine jH F yY rfl rfl (fun cdv A outer s H E hr=>?_)
 have nd:=yY.nd
 exact (bU (lZ (QO (oX bS (aG (x4 0) aP)) i4)
   (bG (fW i4))
   nQ)
  (bG (fW (qO (x4 0) (oW (x4 1) (oX bS (aG (x4 0) aP)))))))
noncomputable abbrev iD:Stmt:=top 21
theorem vV:bJ ["_law_cell_here", "_law_k", "_law_salt", "_law_one", "_law_two"] ["_law_cell_here", "_law_k", "_law_salt"] (aI iD):=⟨rfl,rfl,rfl,by decide +kernel,rfl,by decide +kernel,by decide +kernel⟩
theorem HD {kk:Nat} (F:nL K "_law_mixed" "_law_mixed" iD f fd):aU P w K mg base d8 (kk+1) f fd ["_law_cell_here", "_law_k", "_law_salt"] (eS K LL.eT):=by
 refine jH F vV rfl rfl (fun cdv A outer s H E hr=>?_)
 have nd:=vV.nd
 exact (bU (gG (i:=3) nd (oW (C7 (kZ (kZ (kZ (x4 0) (C7 (C7 i4 (x4 1)) (x4 1))) (C7 i4 (x4 1))) (x4 2)) i4) i4))
  (bU (gG (i:=4) nd (oW (kZ (kZ (C7 (x4 3) (kZ (VG (x4 3) i4) i4)) (C7 i4 (x4 1))) (x4 2)) i4))
  (bG (fW (oW (C7 (x4 4) i4) i4)))))
noncomputable abbrev iE:Stmt:=top 22
theorem vW:bJ ["_law_cell_here", "_law_many", "_law_salt", "_law_found", "_law_left", "_law_k"] ["_law_cell_here", "_law_many", "_law_salt"] (aI iE):=⟨rfl,rfl,rfl,by decide +kernel,rfl,by decide +kernel,by decide +kernel⟩
theorem HE {kk:Nat} {g1:Addr} {d1:FuncData} (F:nL K "_law_draws" "_law_draws" iE f fd) (MX:aU P w K mg base d8 kk g1 d1 ["_law_cell_here", "_law_k", "_law_salt"] (eS K LL.eT)) (MY:mg "_law_mixed" = some (.ref g1)) (MZ:PySem.W.keepIn K (.ref g1)=true) (M0:Binds K d1 ["_law_cell_here", "_law_k", "_law_salt"] []) (cL:mg "range" = none):aU P w K mg base d8 (kk+1) f fd ["_law_cell_here", "_law_many", "_law_salt"] (eS K LL.cK):=by
 refine jH F vW rfl rfl (fun cdv A outer s H E hr=>?_)
 have nd:=vW.nd
 exact (bU (DC (i:=3) nd (sR aP))
  (bU (gG (i:=4) nd i4)
  (bU (lZ (aH7 (x4 0) (aH5 i4 i4))
   (bG (gG (i:=4) nd (x4 0)))
   nQ)
  (bU (vC rfl PassesOwn.never (iZ cL (x4 1)) (DD (i:=5) nd)
   (bG (lZ (aCe (x4 4) i4)
    (bU (mI (LY (i:=3) (A8 (oW (x4 4) i4))))
    (bG (gG (i:=4) nd (VG (x4 4) i4))))
    (bG (mI (LY (i:=3) (A8 (cB MX hr MY MZ M0 (aG (x4 0) (aG (x4 5) (aG (x4 2) aP)))))))))))
  (bG (fW (x4 3)))))))
noncomputable abbrev jR:Stmt:=top 23
theorem yZ:bJ ["_law_found", "_law_due"] ["_law_found", "_law_due"] (aI jR):=⟨rfl,rfl,rfl,by decide +kernel,rfl,by decide +kernel,by decide +kernel⟩
theorem y6 {kk:Nat} (F:nL K "_law_same" "_law_same" jR f fd) (jS:mg "_law_same" = some (.ref f)) (jT:PySem.W.keepIn K (.ref f)=true) (jU:Binds K fd ["_law_found", "_law_due"] []) (bT:mg "isinstance" = none) (kD:mg "str" = none) (mO:mg "int" = none) (qX:mg "bool" = none) (bX:mg "tuple" = none) (bS:mg "len" = none) (cL:mg "range" = none) (vU:mg "all" = none):∀ n:Nat,aU P w K mg base d8 (kk+n) f fd ["_law_found", "_law_due"] (eS K (LL.aZ n))
 | 0=>aCt
 | n+1=>by
  have lF:=y6 (kk:=kk) F jS jT jU bT kD mO qX bX bS cL vU n
  refine jH F yZ rfl rfl (fun cdv A outer s H E hr=>?_)
  have nd:=yZ.nd
  exact (bU (lZ (qN (DB GG.t bT bX PyProof.Rows.boot_tuple (x4 1)))
   (bU (lZ (GN.pt (LR (rZ (qN (DB GG.t bT bX PyProof.Rows.boot_tuple (x4 0)))) (LQ (aH8 (oX bS (aG (x4 0) aP)) (oX bS (aG (x4 1) aP))))))
    (bG (fW b4))
    nQ)
   (bG (fW (aCv rfl vU (aG (j6.pe (kC (ls:=["_law_k"]) (fs:=["_law_found", "_law_due"]) (fr:=[0,1]) rfl (iZ cL (oX bS (aG (x4 1) aP))) (fun _ _ _ _ _ _ nd=>jG (i:=0) nd (by decide)) (fun _ _ _ _ _ _=>mH) (fun _ _ _ _ _ _=>(cB lF hr jS jT jU (aG (qO (x4 1) (x4 0)) (aG (qO (x4 2) (x4 0)) aP)))))) aP)))))
   nQ)
  (bU (lZ (aHa (x4 1) n4)
   (bG (fW (is4 (x4 0) n4)))
   nQ)
  (bU (lZ (qN (DB GG.b bT qX PyProof.Rows.boot_bool (x4 1)))
   (bG (fW (vA (DB GG.b bT qX PyProof.Rows.boot_bool (x4 0)) (C9 (eq4 (x4 0) (x4 1))))))
   nQ)
  (bU (lZ (qN (DB GG.i bT mO PyProof.Rows.boot_int (x4 1)))
   (bG (fW (vA (DB GG.i bT mO PyProof.Rows.boot_int (x4 0)) (vA (aCk (DB GG.b bT qX PyProof.Rows.boot_bool (x4 0))) (C9 (eq4 (x4 0) (x4 1)))))))
   nQ)
  (bG (fW (vA (DB GG.s bT kD PyProof.Rows.boot_str (x4 0)) (C9 (eq4 (x4 0) (x4 1))))))))))
noncomputable abbrev gK:Stmt:=top 24
theorem vX:bJ ["_law_draws_here", "_law_n", "_law_thick", "_law_rest", "_law_word", "_law_k", "_law_low", "_law_at", "_law_j", "_law_under", "_law_i"] ["_law_draws_here", "_law_n", "_law_thick"] (aI gK):=⟨rfl,rfl,rfl,by decide +kernel,rfl,by decide +kernel,by decide +kernel⟩
theorem HF {kk:Nat} (F:nL K "_law_order" "_law_order" gK f fd) (cL:mg "range" = none) (d9:mg "sorted" = none) (bX:mg "tuple" = none) (bS:mg "len" = none) (HG:mg "list" = none):aU P w K mg base d8 (kk+1) f fd ["_law_draws_here", "_law_n", "_law_thick"] (eS K LL.gA):=by
 refine jH F vX rfl rfl (fun cdv A outer s H E hr=>?_)
 have nd:=vX.nd
 have hu:(A.deeper (PyProof.Rows.envOfC "_law_order" (aI gK) s.heap.objs.size f cdv)).units+1<cLine:=by have:=hr.un; omega
 exact (bU (DC (i:=3) nd (GP rfl HG cL (aG (x4 1) aP)))
  (bU (DC (i:=4) nd (sR aP))
  (bU (vC rfl PassesOwn.never (iZ cL (x4 1)) (DD (i:=5) nd)
   (bG (mI (LY (i:=4) (aIF (i:=3) (px4 (oW (qO (x4 0) (x4 5)) (oX bS (aG (x4 3) aP)))))))))
  (bU (QS (i:=6) nd)
  (bU (gG (i:=7) nd (x4 1))
  (bU (vC rfl PassesOwn.never (iZ cL (x4 1)) (DD (i:=8) nd)
   (bU (gG (i:=9) nd (j6.pe (sR aP)))
   (bU (vC rfl PassesOwn.never (iZ cL (x4 8)) (DD (i:=10) nd)
    (bU (lZ (aH6 (oW (qO (x4 0) (x4 7)) i4) (x4 2))
     (bG (aCo (i:=9) nd (W6 (x4 9) (j6.pe (kC (ls:=["_law_a"]) (fs:=["_law_under"]) (fr:=[9]) rfl (kB (kZ (aCl hu (x4 6) (qO (x4 4) (x4 10))) (j6.pe (sR (aG (qO (x4 4) (x4 10)) aP))))) (fun _ _ _ _ _ _ nd=>jG (i:=0) nd (by decide)) (fun _ _ _ _ _ _=>QR (aCf (x4 0) (x4 1))) (fun _ _ _ _ _ _=>(x4 0)))))))
     nQ)
    (bG (gG (i:=7) nd (kZ (x4 7) i4)))))
   (bG (aCp (i:=6) hu (A8 (x4 9)) (qO (x4 4) (x4 8)))))))
  (bG (fW (nM bX (aG (j6.pe (kC (ls:=["_law_b"]) (fs:=["_law_low"]) (fr:=[6]) rfl (iZ cL (x4 1)) (fun _ _ _ _ _ _ nd=>jG (i:=0) nd (by decide)) (fun _ _ _ _ _ _=>mH) (fun _ _ _ _ _ _=>(nM bX (aG (j6.pe (VI d9 (aG (aCl hu (x4 1) (x4 0)) aP))) aP))))) aP))))))))))
noncomputable abbrev iF:Stmt:=top 25
theorem vY:bJ ["_law_script", "_law_k", "_law_most", "_law_salt", "_law_head", "_law_n", "_law_draws_here"] ["_law_script", "_law_k", "_law_most", "_law_salt"] (aI iF):=⟨rfl,rfl,rfl,by decide +kernel,rfl,by decide +kernel,by decide +kernel⟩
theorem HH {kk:Nat} {g1 g2 g3:Addr} {d1 d2 d3:FuncData} (F:nL K "_law_drawn" "_law_drawn" iF f fd) (M1:aU P w K mg base d8 kk g1 d1 ["_law_draws_here", "_law_n", "_law_thick"] (eS K LL.gA)) (M4:mg "_law_order" = some (.ref g1)) (M5:PySem.W.keepIn K (.ref g1)=true) (M6:Binds K d1 ["_law_draws_here", "_law_n", "_law_thick"] []) (lR:aU P w K mg base d8 kk g2 d2 ["_law_cell_here", "_law_many", "_law_salt"] (eS K LL.cK)) (lT:mg "_law_draws" = some (.ref g2)) (lU:PySem.W.keepIn K (.ref g2)=true) (lV:Binds K d2 ["_law_cell_here", "_law_many", "_law_salt"] []) (pI:aU P w K mg base d8 kk g3 d3 ["_law_script", "_law_k"] (eS K LL.dB)) (pJ:mg "_law_cell" = some (.ref g3)) (pK:PySem.W.keepIn K (.ref g3)=true) (pL:Binds K d3 ["_law_script", "_law_k"] []):aU P w K mg base d8 (kk+1) f fd ["_law_script", "_law_k", "_law_most", "_law_salt"] (eS K LL.dQ):=by
 refine jH F vY rfl rfl (fun cdv A outer s H E hr=>?_)
 have nd:=vY.nd
 exact (bU (gG (i:=4) nd (cB lR hr lT lU lV (aG (cB pI hr pJ pK pL (aG (x4 0) (aG (x4 1) aP))) (aG i4 (aG (x4 3) aP)))))
  (bU (gG (i:=5) nd (oW (qO (x4 4) i4) (kZ (x4 2) i4)))
  (bU (gG (i:=6) nd (cB lR hr lT lU lV (aG (cB pI hr pJ pK pL (aG (x4 0) (aG (kZ (x4 1) i4) aP))) (aG (kZ (x4 5) (VG (C7 (x4 5) (aH4 (x4 5) i4)) i4)) (aG (kZ (x4 3) i4) aP)))))
  (bG (fW (cB M1 hr M4 M5 M6 (aG (x4 6) (aG (x4 5) (aG (qO (j6.pe (sR (aG i4 (aG i4 (aG i4 (aG i4 (aG i4 (aG i4 (aG i4 (aG i4 aP)))))))))) (oW (qO (x4 4) i4) i4)) aP)))))))))
noncomputable abbrev jV:Stmt:=top 26
theorem y7:bJ ["_law_order_here", "_law_found", "_law_b"] ["_law_order_here"] (aI jV):=⟨rfl,rfl,rfl,by decide +kernel,rfl,by decide +kernel,by decide +kernel⟩
theorem M7 {kk:Nat} (F:nL K "_law_ties" "_law_ties" jV f fd) (d9:mg "sorted" = none) (bS:mg "len" = none) (cL:mg "range" = none):aU P w K mg base d8 (kk+1) f fd ["_law_order_here"] (eS K LL.cU):=by
 refine jH F y7 rfl rfl (fun cdv A outer s H E hr=>?_)
 have nd:=y7.nd
 exact (bU (gG (i:=1) nd (j6.pe (sR aP)))
  (bU (vC rfl PassesOwn.never (iZ cL (oX bS (aG (x4 0) aP))) (DD (i:=2) nd)
   (bG (gG (i:=1) nd (kZ (x4 1) (j6.pe (kC (ls:=["_law_a"]) (fs:=["_law_b"]) (fr:=[2]) rfl (kB (qO (x4 0) (x4 2))) (fun _ _ _ _ _ _ nd=>jG (i:=0) nd (by decide)) (fun _ _ _ _ _ _=>mH) (fun _ _ _ _ _ _=>(GO (aG (x4 0) (aG (x4 1) aP))))))))))
  (bG (fW (j6.pe (DI d9 (aG (x4 1) aP)))))))
noncomputable abbrev fP:Stmt:=top 27
theorem pM:bJ ["_law_n", "_law_ties_here"] ["_law_n", "_law_ties_here"] (aI fP):=⟨rfl,rfl,rfl,by decide +kernel,rfl,by decide +kernel,by decide +kernel⟩
theorem BJ {kk:Nat} (F:nL K "_law_written" "_law_written" fP f fd) (kD:mg "str" = none):aU P w K mg base d8 (kk+1) f fd ["_law_n", "_law_ties_here"] (eS K eL):=by
 refine jH F pM rfl rfl (fun cdv A outer s H E hr=>?_)
 have nd:=pM.nd
 exact (bG (fW (XD s4 (kZ (j6.pe (sR (aG (JY rfl kD (aG (x4 0) aP)) aP))) (j6.pe (kC (ls:=["_law_a", "_law_b"]) (fs:=[]) (fr:=[]) rfl (kB (x4 1)) (fun _ _ _ _ _ _ nd=>QQ (i:=0) (j:=1) rfl nd (by decide) (by decide)) (fun _ _ _ _ _ _=>mH) (fun _ _ _ _ _ _=>(XB (XB (JY rfl kD (aG (x4 0) aP)) s4) (JY rfl kD (aG (x4 1) aP))))))))))
noncomputable abbrev jW:Stmt:=top 28
theorem y9:bJ ["_law_order_here", "_law_found", "_law_a", "_law_b"] ["_law_order_here"] (aI jW):=⟨rfl,rfl,rfl,by decide +kernel,rfl,by decide +kernel,by decide +kernel⟩
theorem M8 {kk:Nat} {g1:Addr} {d1:FuncData} (F:nL K "_law_bare" "_law_bare" jW f fd) (vZ:aU P w K mg base d8 kk g1 d1 ["_law_order_here"] (eS K LL.cU)) (wB:mg "_law_ties" = some (.ref g1)) (wD:PySem.W.keepIn K (.ref g1)=true) (wF:Binds K d1 ["_law_order_here"] []) (bS:mg "len" = none) (cL:mg "range" = none) (yX:mg "any" = none):aU P w K mg base d8 (kk+1) f fd ["_law_order_here"] (eS K gS):=by
 refine jH F y9 rfl rfl (fun cdv A outer s H E hr=>?_)
 have nd:=y9.nd
 exact (bU (DC (i:=1) nd (sR aP))
  (bU (vC rfl PassesOwn.never (kB (cB vZ hr wB wD wF (aG (x4 0) aP))) (yL (i:=2) (j:=3) rfl nd)
   (bG (lZ (rZ (qN (aCu rfl yX (aG (j6.pe (kC (ls:=["_law_c"]) (fs:=["_law_a", "_law_order_here", "_law_b"]) (fr:=[2,0,3]) rfl (iZ cL (oX bS (aG (x4 0) aP))) (fun _ _ _ _ _ _ nd=>jG (i:=0) nd (by decide)) (fun _ _ _ _ _ _=>mH) (fun _ _ _ _ _ _=>(vA (in4 (x4 1) (qO (x4 2) (x4 0))) (C9 (in4 (x4 0) (qO (x4 2) (x4 3)))))))) aP))))
    (bG (mI (LY (i:=1) (A8 (GO (aG (x4 2) (aG (x4 3) aP)))))))
    nQ)))
  (bG (fW (x4 1)))))
noncomputable abbrev fQ:Stmt:=top 29
theorem pN:bJ ["_law_ties_here", "_law_draws_here", "_law_found", "_law_at", "_law_tie"] ["_law_ties_here", "_law_draws_here"] (aI fQ):=⟨rfl,rfl,rfl,by decide +kernel,rfl,by decide +kernel,by decide +kernel⟩
theorem BK {kk:Nat} (F:nL K "_law_mingled" "_law_mingled" fQ f fd) (bS:mg "len" = none) (dN:mg "enumerate" = none):aU P w K mg base d8 (kk+1) f fd ["_law_ties_here", "_law_draws_here"] (eS K eO):=by
 refine jH F pN rfl rfl (fun cdv A outer s H E hr=>?_)
 have nd:=pN.nd
 exact (bU (DC (i:=2) nd (sR aP))
  (bU (vC rfl PassesOwn.never (nP dN (aG (x4 0) aP)) (yL (i:=3) (j:=4) rfl nd)
   (bU (mI (aIK (i:=2) (oW (qO (x4 1) (x4 3)) (kZ (oX bS (aG (x4 2) aP)) i4)) (x4 4)))
   (bG (lZ (GN.pt (LR (QO (oW (VG (qO (x4 1) (x4 3)) i4) i4) i4) (LQ (QO (oW (qO (x4 1) (x4 3)) i4) i4))))
    (bG (mI (LY (i:=2) (A8 (x4 4)))))
    nQ))))
  (bU (lZ (GN.pt (aCj (aCe (oX bS (aG (x4 0) aP)) i4) (aCi (QO (oW (qO (x4 1) i4) i4) i4))))
   (bG (aCn (i:=2) nd (W6 (x4 2) (j6.pe (aDE (x4 2) (oW (qO (x4 1) i4) i4))))))
   nQ)
  (bG (fW (sl4 (x4 2) no4 (po4 i4)))))))
noncomputable abbrev iG:Stmt:=top 30
theorem wH:bJ ["_law_order_here", "_law_draws_here", "_law_n", "_law_due"] ["_law_order_here", "_law_draws_here"] (aI iG):=⟨rfl,rfl,rfl,by decide +kernel,rfl,by decide +kernel,by decide +kernel⟩
theorem HI {kk:Nat} {g1 g2 g3 g4 g5 g6 g7:Addr} {d1 d2 d3 d4 d5 d6 d7:FuncData} (F:nL K "_law_right" "_law_right" iG f fd) (lF:aU P w K mg base d8 kk g1 d1 ["_law_found", "_law_due"] (eS K (LL.aZ 6))) (jS:mg "_law_same" = some (.ref g1)) (jT:PySem.W.keepIn K (.ref g1)=true) (jU:Binds K d1 ["_law_found", "_law_due"] []) (pO:aU P w K mg base d8 kk g2 d2 ["text"] (eS K dS)) (pP:mg "read_order" = some (.ref g2)) (pQ:PySem.W.keepIn K (.ref g2)=true) (pR:Binds K d2 ["text"] []) (sG:aU P w K mg base d8 kk g3 d3 ["_law_n", "_law_ties_here"] (eS K eL)) (sH:mg "_law_written" = some (.ref g3)) (sI:PySem.W.keepIn K (.ref g3)=true) (sJ:Binds K d3 ["_law_n", "_law_ties_here"] []) (D8:aU P w K mg base d8 kk g4 d4 ["_law_ties_here", "_law_draws_here"] (eS K eO)) (D9:mg "_law_mingled" = some (.ref g4)) (EA:PySem.W.keepIn K (.ref g4)=true) (EB:Binds K d4 ["_law_ties_here", "_law_draws_here"] []) (vZ:aU P w K mg base d8 kk g5 d5 ["_law_order_here"] (eS K LL.cU)) (wB:mg "_law_ties" = some (.ref g5)) (wD:PySem.W.keepIn K (.ref g5)=true) (wF:Binds K d5 ["_law_order_here"] []) (BL:aU P w K mg base d8 kk g6 d6 ["order"] (eS K eW)) (BM:mg "order_text" = some (.ref g6)) (BN:PySem.W.keepIn K (.ref g6)=true) (BO:Binds K d6 ["order"] []) (RX:aU P w K mg base d8 kk g7 d7 ["_law_order_here"] (eS K gS)) (RY:mg "_law_bare" = some (.ref g7)) (RZ:PySem.W.keepIn K (.ref g7)=true) (R1:Binds K d7 ["_law_order_here"] []) (bS:mg "len" = none):aU P w K mg base d8 (kk+1) f fd ["_law_order_here", "_law_draws_here"] (eS K dF):=by
 refine jH F wH rfl rfl (fun cdv A outer s H E hr=>?_)
 have nd:=wH.nd
 exact (bU (gG (i:=2) nd (oX bS (aG (x4 0) aP)))
  (bU (gG (i:=3) nd (cB sG hr sH sI sJ (aG (x4 2) (aG (cB RX hr RY RZ R1 (aG (x4 0) aP)) aP))))
  (bU (lZ (GN.pt (LR (rZ (qN (cB lF hr jS jT jU (aG (cB BL hr BM BN BO (aG (x4 0) aP)) (aG (x4 3) aP))))) (LQ (rZ (qN (cB lF hr jS jT jU (aG (cB pO hr pP pQ pR (aG (x4 3) aP)) (aG (x4 0) aP))))))))
   (bG (fW b4))
   nQ)
  (bG (fW (cB lF hr jS jT jU (aG (cB pO hr pP pQ pR (aG (cB sG hr sH sI sJ (aG (x4 2) (aG (cB D8 hr D9 EA EB (aG (cB vZ hr wB wD wF (aG (x4 0) aP)) (aG (x4 1) aP))) aP))) aP)) (aG (x4 0) aP))))))))
noncomputable abbrev pS:Stmt:=top 31
theorem R3:bJ ["_law_script", "_law_one", "_law_other", "_law_draws_here"] ["_law_script"] (aI pS):=⟨rfl,rfl,rfl,by decide +kernel,rfl,by decide +kernel,by decide +kernel⟩
theorem aA5 {kk:Nat} {g1 g2 g3 g4:Addr} {d1 d2 d3 d4:FuncData} (F:nL K "law" "law" pS f fd) (qY:aU P w K mg base d8 kk g1 d1 ["_law_order_here", "_law_draws_here"] (eS K dF)) (qZ:mg "_law_right" = some (.ref g1)) (rA:PySem.W.keepIn K (.ref g1)=true) (rB:Binds K d1 ["_law_order_here", "_law_draws_here"] []) (lR:aU P w K mg base d8 kk g2 d2 ["_law_cell_here", "_law_many", "_law_salt"] (eS K LL.cK)) (lT:mg "_law_draws" = some (.ref g2)) (lU:PySem.W.keepIn K (.ref g2)=true) (lV:Binds K d2 ["_law_cell_here", "_law_many", "_law_salt"] []) (pI:aU P w K mg base d8 kk g3 d3 ["_law_script", "_law_k"] (eS K LL.dB)) (pJ:mg "_law_cell" = some (.ref g3)) (pK:PySem.W.keepIn K (.ref g3)=true) (pL:Binds K d3 ["_law_script", "_law_k"] []) (zA:aU P w K mg base d8 kk g4 d4 ["_law_script", "_law_k", "_law_most", "_law_salt"] (eS K LL.dQ)) (zB:mg "_law_drawn" = some (.ref g4)) (zC:PySem.W.keepIn K (.ref g4)=true) (zD:Binds K d4 ["_law_script", "_law_k", "_law_most", "_law_salt"] []):aU P w K mg base d8 (kk+1) f fd ["_law_script"] (eS K mF):=by
 refine jH F R3 rfl rfl (fun cdv A outer s H E hr=>?_)
 have nd:=R3.nd
 exact (bU (gG (i:=1) nd (cB zA hr zB zC zD (aG (x4 0) (aG i4 (aG i4 (aG i4 aP))))))
  (bU (gG (i:=2) nd (cB zA hr zB zC zD (aG (x4 0) (aG i4 (aG i4 (aG i4 aP))))))
  (bU (gG (i:=3) nd (cB lR hr lT lU lV (aG (cB pI hr pJ pK pL (aG (x4 0) (aG i4 aP))) (aG i4 (aG i4 aP)))))
  (bG (fW (vA (cB qY hr qZ rA rB (aG (x4 1) (aG (x4 3) aP))) (vA (cB qY hr qZ rA rB (aG (x4 2) (aG (x4 3) aP))) (C9 (cB qY hr qZ rA rB (aG (x4 1) (aG (j6.pe (aDF (x4 3) (aHi i4))) aP)))))))))))
end
theorem i9:∀ (us:List Value),us.length=1 -> ∃ a0,us=[a0]
 | [a0],_=>⟨a0,rfl⟩
theorem jA:∀ (us:List Value),us.length=2 -> ∃ a0 a1,us=[a0,a1]
 | [a0,a1],_=>⟨a0,a1,rfl⟩
theorem pT:∀ (us:List Value),us.length=3 -> ∃ a0 a1 a2,us=[a0,a1,a2]
 | [a0,a1,a2],_=>⟨a0,a1,a2,rfl⟩
theorem VX:∀ (us:List Value),us.length=4 -> ∃ a0 a1 a2 a3,us=[a0,a1,a2,a3]
 | [a0,a1,a2,a3],_=>⟨a0,a1,a2,a3,rfl⟩
theorem all_mk {l:PySem.W.OpenLaw} {w:World} {K:PySem.W.Frag} {h:Heap} {mg:Str->Option Value} {fa f1 f2 f3 f4 f5 f6 f7 f8 f9 f10 f11 f12 f13 f14 f15 f16 f17 f18 f19 f20 f21 f22 f23:Addr} (X:K.In h) (G:h.Ns mainGlobals mg) (hfa:mg "law" = some (.ref fa))
  {od1 an1 od2 an2 od3 an3 od4 an4 od5 an5 od6 an6 od7 an7 od8 an8 od9 an9 aIR aIS aIT aIU aIV aIW aIX aIY aIZ aI0 aI1 aI2 aI3 aI4 aI5 aI6 aI7 aI8 aI9 aIa aIb aIc aIe aIf aIg aIh aIi aDT:Option Addr} {sl1 sl2 sl3 sl4 sl5 sl6 sl7 sl8 sl9 aIj aIk aIl aIm aIn aIo aIp aIq aIr aIs aIt aIu aIv aIw:Array (Option Value)}
  {oc1 kV1 dc1 pm1 cd1 ct1 oc2 kV2 dc2 pm2 cd2 ct2 oc3 kV3 dc3 pm3 cd3 ct3 oc4 kV4 dc4 pm4 cd4 ct4 oc5 kV5 dc5 pm5 cd5 ct5 oc6 kV6 dc6 pm6 cd6 ct6 oc7 kV7 dc7 pm7 cd7 ct7 oc8 kV8 dc8 pm8 cd8 ct8 oc9 kV9 dc9 pm9 cd9 ct9 aIx aIy aIz aJA aDU aJB aJC aJD aJE aJF aDV aJG aJH aJI aJJ aJK aDW aJL aJM aJN aJO aJP aDX aJQ aJR aJS aJT aJU aDY aJV aJW aJX aJY aJZ aDZ aJ0 aJ1 aJ2 aJ3 aJ4 aD0 aJ5 aJ6 aJ7 aJ8 aJ9 aD1 aJa aJb aJc aJd aJe aD2 aJf aJg aJh aJi aJj aD3 aJk aJl aJm aJn aJo aD4 aJp aJq aJr aJs aJt aD5 aJu aJv aJw aJx aJy aD6 aJz aKA aD7 aD8 aD9 aA6 aDa:Value}
  {qV:Tok}
  {lD jP:Addr}
  (a1:PySem.W.nsIn K mainGlobals "is_thing" = some (some (.ref f1))) (l1:K.lookup f1=some ⟨oc1,od1,.func (PySem.W.fnOf "is_thing" "is_thing" (bK gH) (bD gH) (aI gH) .none kV1 dc1 pm1 an1 cd1 ct1),sl1⟩) (c1:PySem.W.codeIn K cd1 "is_thing" = true) (k1:PySem.W.keepIn K (.ref f1)=true)
  (a2:PySem.W.nsIn K mainGlobals "ties_of" = some (some (.ref f2))) (l2:K.lookup f2=some ⟨oc2,od2,.func (PySem.W.fnOf "ties_of" "ties_of" (bK iB) (bD iB) (aI iB) .none kV2 dc2 pm2 an2 cd2 ct2),sl2⟩) (c2:PySem.W.codeIn K cd2 "ties_of" = true) (k2:PySem.W.keepIn K (.ref f2)=true)
  (a3:PySem.W.nsIn K mainGlobals "is_bare" = some (some (.ref f3))) (l3:K.lookup f3=some ⟨oc3,od3,.func (PySem.W.fnOf "is_bare" "is_bare" (bK iC) (bD iC) (aI iC) .none kV3 dc3 pm3 an3 cd3 ct3),sl3⟩) (c3:PySem.W.codeIn K cd3 "is_bare" = true) (k3:PySem.W.keepIn K (.ref f3)=true)
  (a4:PySem.W.nsIn K mainGlobals "bare_ties" = some (some (.ref f4))) (l4:K.lookup f4=some ⟨oc4,od4,.func (PySem.W.fnOf "bare_ties" "bare_ties" (bK fL) (bD fL) (aI fL) .none kV4 dc4 pm4 an4 cd4 ct4),sl4⟩) (c4:PySem.W.codeIn K cd4 "bare_ties" = true) (k4:PySem.W.keepIn K (.ref f4)=true)
  (a5:PySem.W.nsIn K mainGlobals "refuse_strangers" = some (some (.ref f5))) (l5:K.lookup f5=some ⟨oc5,od5,.func (PySem.W.fnOf "refuse_strangers" "refuse_strangers" (bK bY) (bD bY) (aI bY) .none kV5 dc5 pm5 an5 cd5 ct5),sl5⟩) (c5:PySem.W.codeIn K cd5 "refuse_strangers" = true) (k5:PySem.W.keepIn K (.ref f5)=true)
  (a6:PySem.W.nsIn K mainGlobals "put_under" = some (some (.ref f6))) (l6:K.lookup f6=some ⟨oc6,od6,.func (PySem.W.fnOf "put_under" "put_under" (bK fN) (bD fN) (aI fN) .none kV6 dc6 pm6 an6 cd6 ct6),sl6⟩) (c6:PySem.W.codeIn K cd6 "put_under" = true) (k6:PySem.W.keepIn K (.ref f6)=true)
  (a7:PySem.W.nsIn K mainGlobals "order_of" = some (some (.ref f7))) (l7:K.lookup f7=some ⟨oc7,od7,.func (PySem.W.fnOf "order_of" "order_of" (bK gJ) (bD gJ) (aI gJ) .none kV7 dc7 pm7 an7 cd7 ct7),sl7⟩) (c7:PySem.W.codeIn K cd7 "order_of" = true) (k7:PySem.W.keepIn K (.ref f7)=true)
  (a8:PySem.W.nsIn K mainGlobals "order_text" = some (some (.ref f8))) (l8:K.lookup f8=some ⟨oc8,od8,.func (PySem.W.fnOf "order_text" "order_text" (bK eX) (bD eX) (aI eX) .none kV8 dc8 pm8 an8 cd8 ct8),sl8⟩) (c8:PySem.W.codeIn K cd8 "order_text" = true) (k8:PySem.W.keepIn K (.ref f8)=true)
  (a9:PySem.W.nsIn K mainGlobals "is_figure" = some (some (.ref f9))) (l9:K.lookup f9=some ⟨oc9,od9,.func (PySem.W.fnOf "is_figure" "is_figure" (bK fO) (bD fO) (aI fO) .none kV9 dc9 pm9 an9 cd9 ct9),sl9⟩) (c9:PySem.W.codeIn K cd9 "is_figure" = true) (k9:PySem.W.keepIn K (.ref f9)=true)
  (a10:PySem.W.nsIn K mainGlobals "is_tie_word" = some (some (.ref f10))) (l10:K.lookup f10=some ⟨aIx,aIR,.func (PySem.W.fnOf "is_tie_word" "is_tie_word" (bK eD) (bD eD) (aI eD) .none aIy aIz aJA aIS aDU aJB),aIj⟩) (c10:PySem.W.codeIn K aDU "is_tie_word" = true) (k10:PySem.W.keepIn K (.ref f10)=true)
  (a11:PySem.W.nsIn K mainGlobals "read_order" = some (some (.ref f11))) (l11:K.lookup f11=some ⟨aJC,aIT,.func (PySem.W.fnOf "read_order" "read_order" (bK eZ) (bD eZ) (aI eZ) .none aJD aJE aJF aIU aDV aJG),aIk⟩) (c11:PySem.W.codeIn K aDV "read_order" = true) (k11:PySem.W.keepIn K (.ref f11)=true)
  (a12:PySem.W.nsIn K mainGlobals "_law_cell" = some (some (.ref f12))) (l12:K.lookup f12=some ⟨aJH,aIV,.func (PySem.W.fnOf "_law_cell" "_law_cell" (bK jQ) (bD jQ) (aI jQ) .none aJI aJJ aJK aIW aDW aJL),aIl⟩) (c12:PySem.W.codeIn K aDW "_law_cell" = true) (k12:PySem.W.keepIn K (.ref f12)=true)
  (a13:PySem.W.nsIn K mainGlobals "_law_mixed" = some (some (.ref f13))) (l13:K.lookup f13=some ⟨aJM,aIX,.func (PySem.W.fnOf "_law_mixed" "_law_mixed" (bK iD) (bD iD) (aI iD) .none aJN aJO aJP aIY aDX aJQ),aIm⟩) (c13:PySem.W.codeIn K aDX "_law_mixed" = true) (k13:PySem.W.keepIn K (.ref f13)=true)
  (a14:PySem.W.nsIn K mainGlobals "_law_draws" = some (some (.ref f14))) (l14:K.lookup f14=some ⟨aJR,aIZ,.func (PySem.W.fnOf "_law_draws" "_law_draws" (bK iE) (bD iE) (aI iE) .none aJS aJT aJU aI0 aDY aJV),aIn⟩) (c14:PySem.W.codeIn K aDY "_law_draws" = true) (k14:PySem.W.keepIn K (.ref f14)=true)
  (a15:PySem.W.nsIn K mainGlobals "_law_same" = some (some (.ref f15))) (l15:K.lookup f15=some ⟨aJW,aI1,.func (PySem.W.fnOf "_law_same" "_law_same" (bK jR) (bD jR) (aI jR) .none aJX aJY aJZ aI2 aDZ aJ0),aIo⟩) (c15:PySem.W.codeIn K aDZ "_law_same" = true) (k15:PySem.W.keepIn K (.ref f15)=true)
  (a16:PySem.W.nsIn K mainGlobals "_law_order" = some (some (.ref f16))) (l16:K.lookup f16=some ⟨aJ1,aI3,.func (PySem.W.fnOf "_law_order" "_law_order" (bK gK) (bD gK) (aI gK) .none aJ2 aJ3 aJ4 aI4 aD0 aJ5),aIp⟩) (c16:PySem.W.codeIn K aD0 "_law_order" = true) (k16:PySem.W.keepIn K (.ref f16)=true)
  (a17:PySem.W.nsIn K mainGlobals "_law_drawn" = some (some (.ref f17))) (l17:K.lookup f17=some ⟨aJ6,aI5,.func (PySem.W.fnOf "_law_drawn" "_law_drawn" (bK iF) (bD iF) (aI iF) .none aJ7 aJ8 aJ9 aI6 aD1 aJa),aIq⟩) (c17:PySem.W.codeIn K aD1 "_law_drawn" = true) (k17:PySem.W.keepIn K (.ref f17)=true)
  (a18:PySem.W.nsIn K mainGlobals "_law_ties" = some (some (.ref f18))) (l18:K.lookup f18=some ⟨aJb,aI7,.func (PySem.W.fnOf "_law_ties" "_law_ties" (bK jV) (bD jV) (aI jV) .none aJc aJd aJe aI8 aD2 aJf),aIr⟩) (c18:PySem.W.codeIn K aD2 "_law_ties" = true) (k18:PySem.W.keepIn K (.ref f18)=true)
  (a19:PySem.W.nsIn K mainGlobals "_law_written" = some (some (.ref f19))) (l19:K.lookup f19=some ⟨aJg,aI9,.func (PySem.W.fnOf "_law_written" "_law_written" (bK fP) (bD fP) (aI fP) .none aJh aJi aJj aIa aD3 aJk),aIs⟩) (c19:PySem.W.codeIn K aD3 "_law_written" = true) (k19:PySem.W.keepIn K (.ref f19)=true)
  (a20:PySem.W.nsIn K mainGlobals "_law_bare" = some (some (.ref f20))) (l20:K.lookup f20=some ⟨aJl,aIb,.func (PySem.W.fnOf "_law_bare" "_law_bare" (bK jW) (bD jW) (aI jW) .none aJm aJn aJo aIc aD4 aJp),aIt⟩) (c20:PySem.W.codeIn K aD4 "_law_bare" = true) (k20:PySem.W.keepIn K (.ref f20)=true)
  (a21:PySem.W.nsIn K mainGlobals "_law_mingled" = some (some (.ref f21))) (l21:K.lookup f21=some ⟨aJq,aIe,.func (PySem.W.fnOf "_law_mingled" "_law_mingled" (bK fQ) (bD fQ) (aI fQ) .none aJr aJs aJt aIf aD5 aJu),aIu⟩) (c21:PySem.W.codeIn K aD5 "_law_mingled" = true) (k21:PySem.W.keepIn K (.ref f21)=true)
  (a22:PySem.W.nsIn K mainGlobals "_law_right" = some (some (.ref f22))) (l22:K.lookup f22=some ⟨aJv,aIg,.func (PySem.W.fnOf "_law_right" "_law_right" (bK iG) (bD iG) (aI iG) .none aJw aJx aJy aIh aD6 aJz),aIv⟩) (c22:PySem.W.codeIn K aD6 "_law_right" = true) (k22:PySem.W.keepIn K (.ref f22)=true)
  (a23:PySem.W.nsIn K mainGlobals "law" = some (some (.ref f23))) (l23:K.lookup f23=some ⟨aKA,aIi,.func (PySem.W.fnOf "law" "law" (bK pS) (bD pS) (aI pS) .none aD7 aD8 aD9 aDT aA6 aDa),aIw⟩) (c23:PySem.W.codeIn K aA6 "law" = true) (k23:PySem.W.keepIn K (.ref f23)=true)
  (wJ:PySem.W.nsIn K mainGlobals "Looped" = some (some (.ref lD)))
  (rC:PySem.W.nsIn K mainGlobals "NoThing" = some (some (.ref jP)))
  (wK:PySem.W.excIn K lD bmV "ValueError.__new__" = true)
  (rD:PySem.W.excIn K jP bmV "ValueError.__new__" = true)
  (z1:PySem.W.nsIn K mainGlobals "sorted" = some none) (z2:PySem.W.nsIn K mainGlobals "tuple" = some none) (z3:PySem.W.nsIn K mainGlobals "enumerate" = some none) (z4:PySem.W.nsIn K mainGlobals "any" = some none) (z5:PySem.W.nsIn K mainGlobals "set" = some none) (z6:PySem.W.nsIn K mainGlobals "len" = some none) (z7:PySem.W.nsIn K mainGlobals "str" = some none) (z8:PySem.W.nsIn K mainGlobals "int" = some none) (z9:PySem.W.nsIn K mainGlobals "all" = some none) (z10:PySem.W.nsIn K mainGlobals "range" = some none) (z11:PySem.W.nsIn K mainGlobals "isinstance" = some none) (z12:PySem.W.nsIn K mainGlobals "bool" = some none) (z13:PySem.W.nsIn K mainGlobals "list" = some none) (rE:PySem.W.nsIn K mainGlobals "FIGURES" = some (some (.str "0123456789" qV))) :
  ∃ fd:FuncData,(∀ (s:Shared) (v:Value),BindsTo s fd ⟨[v],[]⟩ [("_law_script",v)]) /\ ∀ base:Heap,K.In base->base.Ns mainGlobals mg->aU l.prog w K mg base d8 11 fa fd ["_law_script"] (eS K mF):=by
 have e:=hfa.symm.trans (PySem.W.mg_of X G a23)
 cases e
 have F1:=dC (st:=gH) l1 c1 k1
 have F2:=dC (st:=iB) l2 c2 k2
 have F3:=dC (st:=iC) l3 c3 k3
 have F4:=dC (st:=fL) l4 c4 k4
 have F5:=dC (st:=bY) l5 c5 k5
 have F6:=dC (st:=fN) l6 c6 k6
 have F7:=dC (st:=gJ) l7 c7 k7
 have F8:=dC (st:=eX) l8 c8 k8
 have F9:=dC (st:=fO) l9 c9 k9
 have F10:=dC (st:=eD) l10 c10 k10
 have F11:=dC (st:=eZ) l11 c11 k11
 have F12:=dC (st:=jQ) l12 c12 k12
 have F13:=dC (st:=iD) l13 c13 k13
 have F14:=dC (st:=iE) l14 c14 k14
 have F15:=dC (st:=jR) l15 c15 k15
 have F16:=dC (st:=gK) l16 c16 k16
 have F17:=dC (st:=iF) l17 c17 k17
 have F18:=dC (st:=jV) l18 c18 k18
 have F19:=dC (st:=fP) l19 c19 k19
 have F20:=dC (st:=jW) l20 c20 k20
 have F21:=dC (st:=fQ) l21 c21 k21
 have F22:=dC (st:=iG) l22 c22 k22
 have F23:=dC (st:=pS) l23 c23 k23
 have b1:=F1.binds (ps:=["number", "n"]) fun _ _ _ _ _ _ us hl=>by obtain ⟨_,_,rfl⟩:=jA us hl; rfl
 have g1:=PySem.W.mg_of X G a1
 have b2:=F2.binds (ps:=["order"]) fun _ _ _ _ _ _ us hl=>by obtain ⟨_,rfl⟩:=i9 us hl; rfl
 have g2:=PySem.W.mg_of X G a2
 have b3:=F3.binds (ps:=["order", "tie"]) fun _ _ _ _ _ _ us hl=>by obtain ⟨_,_,rfl⟩:=jA us hl; rfl
 have g3:=PySem.W.mg_of X G a3
 have b4:=F4.binds (ps:=["order"]) fun _ _ _ _ _ _ us hl=>by obtain ⟨_,rfl⟩:=i9 us hl; rfl
 have g4:=PySem.W.mg_of X G a4
 have b5:=F5.binds (ps:=["n", "a", "b"]) fun _ _ _ _ _ _ us hl=>by obtain ⟨_,_,_,rfl⟩:=pT us hl; rfl
 have g5:=PySem.W.mg_of X G a5
 have b6:=F6.binds (ps:=["order", "a", "b"]) fun _ _ _ _ _ _ us hl=>by obtain ⟨_,_,_,rfl⟩:=pT us hl; rfl
 have g6:=PySem.W.mg_of X G a6
 have b7:=F7.binds (ps:=["n", "ties"]) fun _ _ _ _ _ _ us hl=>by obtain ⟨_,_,rfl⟩:=jA us hl; rfl
 have g7:=PySem.W.mg_of X G a7
 have b8:=F8.binds (ps:=["order"]) fun _ _ _ _ _ _ us hl=>by obtain ⟨_,rfl⟩:=i9 us hl; rfl
 have g8:=PySem.W.mg_of X G a8
 have b9:=F9.binds (ps:=["text"]) fun _ _ _ _ _ _ us hl=>by obtain ⟨_,rfl⟩:=i9 us hl; rfl
 have g9:=PySem.W.mg_of X G a9
 have b10:=F10.binds (ps:=["word"]) fun _ _ _ _ _ _ us hl=>by obtain ⟨_,rfl⟩:=i9 us hl; rfl
 have g10:=PySem.W.mg_of X G a10
 have b11:=F11.binds (ps:=["text"]) fun _ _ _ _ _ _ us hl=>by obtain ⟨_,rfl⟩:=i9 us hl; rfl
 have g11:=PySem.W.mg_of X G a11
 have b12:=F12.binds (ps:=["_law_script", "_law_k"]) fun _ _ _ _ _ _ us hl=>by obtain ⟨_,_,rfl⟩:=jA us hl; rfl
 have g12:=PySem.W.mg_of X G a12
 have b13:=F13.binds (ps:=["_law_cell_here", "_law_k", "_law_salt"]) fun _ _ _ _ _ _ us hl=>by obtain ⟨_,_,_,rfl⟩:=pT us hl; rfl
 have g13:=PySem.W.mg_of X G a13
 have b14:=F14.binds (ps:=["_law_cell_here", "_law_many", "_law_salt"]) fun _ _ _ _ _ _ us hl=>by obtain ⟨_,_,_,rfl⟩:=pT us hl; rfl
 have g14:=PySem.W.mg_of X G a14
 have b15:=F15.binds (ps:=["_law_found", "_law_due"]) fun _ _ _ _ _ _ us hl=>by obtain ⟨_,_,rfl⟩:=jA us hl; rfl
 have g15:=PySem.W.mg_of X G a15
 have b16:=F16.binds (ps:=["_law_draws_here", "_law_n", "_law_thick"]) fun _ _ _ _ _ _ us hl=>by obtain ⟨_,_,_,rfl⟩:=pT us hl; rfl
 have g16:=PySem.W.mg_of X G a16
 have b17:=F17.binds (ps:=["_law_script", "_law_k", "_law_most", "_law_salt"]) fun _ _ _ _ _ _ us hl=>by obtain ⟨_,_,_,_,rfl⟩:=VX us hl; rfl
 have g17:=PySem.W.mg_of X G a17
 have b18:=F18.binds (ps:=["_law_order_here"]) fun _ _ _ _ _ _ us hl=>by obtain ⟨_,rfl⟩:=i9 us hl; rfl
 have g18:=PySem.W.mg_of X G a18
 have b19:=F19.binds (ps:=["_law_n", "_law_ties_here"]) fun _ _ _ _ _ _ us hl=>by obtain ⟨_,_,rfl⟩:=jA us hl; rfl
 have g19:=PySem.W.mg_of X G a19
 have b20:=F20.binds (ps:=["_law_order_here"]) fun _ _ _ _ _ _ us hl=>by obtain ⟨_,rfl⟩:=i9 us hl; rfl
 have g20:=PySem.W.mg_of X G a20
 have b21:=F21.binds (ps:=["_law_ties_here", "_law_draws_here"]) fun _ _ _ _ _ _ us hl=>by obtain ⟨_,_,rfl⟩:=jA us hl; rfl
 have g21:=PySem.W.mg_of X G a21
 have b22:=F22.binds (ps:=["_law_order_here", "_law_draws_here"]) fun _ _ _ _ _ _ us hl=>by obtain ⟨_,_,rfl⟩:=jA us hl; rfl
 have g22:=PySem.W.mg_of X G a22
 have d9:=PySem.W.mg_none_of X G z1
 have bX:=PySem.W.mg_none_of X G z2
 have dN:=PySem.W.mg_none_of X G z3
 have yX:=PySem.W.mg_none_of X G z4
 have RW:=PySem.W.mg_none_of X G z5
 have bS:=PySem.W.mg_none_of X G z6
 have kD:=PySem.W.mg_none_of X G z7
 have mO:=PySem.W.mg_none_of X G z8
 have vU:=PySem.W.mg_none_of X G z9
 have cL:=PySem.W.mg_none_of X G z10
 have bT:=PySem.W.mg_none_of X G z11
 have qX:=PySem.W.mg_none_of X G z12
 have HG:=PySem.W.mg_none_of X G z13
 have qW:=PySem.W.mg_of X G rE
 have vR:=PySem.W.mg_of X G wJ
 have qT:=PySem.W.mg_of X G rC
 have vS:=JR wK
 have qU:=JR rD
 refine ⟨PySem.W.fnOf "law" "law" (bK pS) (bD pS) (aI pS) .none aD7 aD8 aD9 aDT aA6 aDa,fun s v=>.of_eq rfl,fun base _ _=>?_⟩
 have o1:aU l.prog w K mg base d8 4 f1 _ _ (eS K LL.fH):=DY (kk:=3) F1 
 have o2:aU l.prog w K mg base d8 4 f2 _ _ (eS K LL.eA):=G7 (kk:=3) F2 d9 bX dN
 have o3:aU l.prog w K mg base d8 4 f3 _ _ (eS K fJ):=G8 (kk:=3) F3 yX
 have o4:aU l.prog w K mg base d8 5 f4 _ _ (eS K cZ):=BG (kk:=4) F4 (o3.mono (by decide)) g3 k3 b3 (o2.mono (by decide)) g2 k2 b2 bX
 have o5:aU l.prog w K mg base (BE l.prog w) 5 f5 _ _ (Q7 K mg LL.aJ):=mB (kk:=4) F5 (o1.mono (by decide)) g1 k1 b1 qT qU
 have o6:aU l.prog w K mg base (BE l.prog w) 6 f6 _ _ (Q7 K mg LL.bW):=BH (kk:=5) F6 (o5.mono (by decide)) g5 k5 b5 vR vS bX dN d9 RW bS
 have o7:aU l.prog w K mg base d8 7 f7 _ _ (eS K cP):=DZ (kk:=6) F7 (o6.mono (by decide)) g6 k6 b6 (o5.mono (by decide)) g5 k5 b5
 have o8:aU l.prog w K mg base d8 6 f8 _ _ (eS K eW):=xF (kk:=5) F8 (o4.mono (by decide)) g4 k4 b4 bS kD
 have o9:aU l.prog w K mg base d8 4 f9 _ _ (eS K dM):=BI (kk:=3) F9 qW bS
 have o10:aU l.prog w K mg base d8 5 f10 _ _ (eS K eB):=vT (kk:=4) F10 (o9.mono (by decide)) g9 k9 b9 bS
 have o11:aU l.prog w K mg base d8 8 f11 _ _ (eS K dS):=xG (kk:=7) F11 (o7.mono (by decide)) g7 k7 b7 (o10.mono (by decide)) g10 k10 b10 (o9.mono (by decide)) g9 k9 b9 mO bX vU
 have o12:aU l.prog w K mg base d8 4 f12 _ _ (eS K LL.dB):=MW (kk:=3) F12 bS
 have o13:aU l.prog w K mg base d8 4 f13 _ _ (eS K LL.eT):=HD (kk:=3) F13 
 have o14:aU l.prog w K mg base d8 5 f14 _ _ (eS K LL.cK):=HE (kk:=4) F14 (o13.mono (by decide)) g13 k13 b13 cL
 have o15:aU l.prog w K mg base d8 9 f15 _ _ (eS K (LL.aZ 6)):=y6 (kk:=3) F15 g15 k15 b15 bT kD mO qX bX bS cL vU 6
 have o16:aU l.prog w K mg base d8 4 f16 _ _ (eS K LL.gA):=HF (kk:=3) F16 cL d9 bX bS HG
 have o17:aU l.prog w K mg base d8 6 f17 _ _ (eS K LL.dQ):=HH (kk:=5) F17 (o16.mono (by decide)) g16 k16 b16 (o14.mono (by decide)) g14 k14 b14 (o12.mono (by decide)) g12 k12 b12
 have o18:aU l.prog w K mg base d8 4 f18 _ _ (eS K LL.cU):=M7 (kk:=3) F18 d9 bS cL
 have o19:aU l.prog w K mg base d8 4 f19 _ _ (eS K eL):=BJ (kk:=3) F19 kD
 have o20:aU l.prog w K mg base d8 5 f20 _ _ (eS K gS):=M8 (kk:=4) F20 (o18.mono (by decide)) g18 k18 b18 bS cL yX
 have o21:aU l.prog w K mg base d8 4 f21 _ _ (eS K eO):=BK (kk:=3) F21 bS dN
 have o22:aU l.prog w K mg base d8 10 f22 _ _ (eS K dF):=HI (kk:=9) F22 (o15.mono (by decide)) g15 k15 b15 (o11.mono (by decide)) g11 k11 b11 (o19.mono (by decide)) g19 k19 b19 (o21.mono (by decide)) g21 k21 b21 (o18.mono (by decide)) g18 k18 b18 (o8.mono (by decide)) g8 k8 b8 (o20.mono (by decide)) g20 k20 b20 bS
 exact aA5 (kk:=10) F23 (o22.mono (by decide)) g22 k22 b22 (o14.mono (by decide)) g14 k14 b14 (o12.mono (by decide)) g12 k12 b12 (o17.mono (by decide)) g17 k17 b17
theorem aA7 {K:PySem.W.Frag} {H:Hp} {a:Addr} {ns:List Int} (o:Only H) (h:fS K H a (ns.map V.int)):WW K H a ns:=by
 rcases h with h | h
 ·rcases h with h | ⟨b,h⟩
  ·rcases o a with z | ⟨_,_,z⟩ | ⟨_,z⟩<;>rw [z] at h<;>cases h
  ·exact .inl ⟨b,h⟩
 ·exact .inr (.inr h)
theorem walk {l:PySem.W.OpenLaw} {q:Program} {loose:List Str} {XP:(Str->Option Value)->Heap->Prop} {YP:World->Heap->Prop} {d:DefRec} {K:Params->PySem.W.Frag} (hn:l.most=some 63) (hdf:d.params.defaults=[])
  (hY:∀ (w:World) (h:Heap),YP w h->(K w.params).In h) (hTb:∀ w:World,TabsOk (K w.params) q) (hnt:∀ w:World,PySem.W.noTabs (K w.params)=true)
  (F:∀ (w:World) (mg:Str->Option Value) (fa:Addr) (h:Heap),(K w.params).In h->h.Ns mainGlobals mg->mg d.name=some (.ref fa) ->
   ∃ fd:FuncData,(∀ (s:Shared) (u:Value),BindsTo s fd ⟨[u],[]⟩ [("_law_script",u)]) /\ ∀ base:Heap,(K w.params).In base->base.Ns mainGlobals mg->aU l.prog w (K w.params) mg base d8 11 fa fd ["_law_script"] (eS (K w.params) mF)) :
  PySem.W.WalkO q loose XP YP l.row.toRowW d [] (fun f vs=>PySem.call f vs) :=
 L2.UM (n:=63) (k:=11) (x := "_law_script") (CX:=fun _=>d8) (sp:=fun w=>eS (K w.params) mF) hn (by decide) hdf ⟨rfl,by decide,by decide⟩ hY hTb hnt F
  (fun _ H a ns hl o hS=>⟨fun a=>H a=none,[.nW ns],fun d=>d=.bl true,fun _ h=>h,⟨_,_,rfl,⟨a,rfl,aA7 o hS⟩,rfl⟩,⟨_,OK ns hl,rfl⟩,fun v H' d _ hd e=>by subst e; exact hd⟩) fun _ _ _ _ _ z=>z
end K06
open PySem PySem.W PyProof.Rows
noncomputable def PySem.W.Fast.tw13576156633179946231 := 0
noncomputable def PySem.W.Fast.tw1442623815005409941 := 0
noncomputable def PySem.W.Fast.tw5018171680025172124 := 0
noncomputable def PySem.W.Fast.tw3159290820094875060 := 0
noncomputable def PySem.W.Fast.tw16882902384318092671 := 0
noncomputable def PySem.W.Fast.tw17775041069110981176 := 0
noncomputable def PySem.W.Fast.tw4951940502415135799 := 0
noncomputable def PySem.W.Fast.tw15722964511603230774 := 0
noncomputable def PySem.W.Fast.tw12335895502507430509 := 0
noncomputable def PySem.W.Fast.tw17155267665780656271 := 0
set_option maxRecDepth 100000 in
set_option maxHeartbeats 0 in
theorem PySem.Challenge.cw_risecount_k06_written_and_read_holds : PySem.Challenge.rw_risecount_k06_written_and_read.Holds := by
 w_on; o_law; k_head; (case hw=>w_witness2)
 k_fill
 refine K06.walk (l := PySem.Challenge.rw_risecount_k06_written_and_read) rfl rfl (fun w h Y => PySem.W.kIn_of Y) ?hTbs ?hNtb ?F
 case hTbs =>
  intro w
  refine' L4.tabs_ok (L4.MN ?t1 ?t2 ?t3 ?t4 ?t5) ?nd ?rc
  (case t1=>(refine' L4.lC ?p1; (case p1=>k_is)))
  (case t2=>(refine' L4.lC ?p1; (case p1=>k_is)))
  (case t3=>(refine' L4.lC ?p1; (case p1=>k_is)))
  (case t4=>(refine' L4.lC ?p1; (case p1=>k_is)))
  (case t5=>(refine' L4.lC ?p1; (case p1=>k_is)))
  (case nd=>decide)
  (case rc=>(intro t ht; cases ht))
 case hNtb =>
  intro w
  kernel_rfl
 case F =>
  intro w mg fa h KX G hmg
  refine' K06.all_mk KX G hmg ?a1 ?l1 ?c1 ?k1 ?a2 ?l2 ?c2 ?k2 ?a3 ?l3 ?c3 ?k3 ?a4 ?l4 ?c4 ?k4 ?a5 ?l5 ?c5 ?k5 ?a6 ?l6 ?c6 ?k6 ?a7 ?l7 ?c7 ?k7 ?a8 ?l8 ?c8 ?k8 ?a9 ?l9 ?c9 ?k9 ?a10 ?l10 ?c10 ?k10 ?a11 ?l11 ?c11 ?k11 ?a12 ?l12 ?c12 ?k12 ?a13 ?l13 ?c13 ?k13 ?a14 ?l14 ?c14 ?k14 ?a15 ?l15 ?c15 ?k15 ?a16 ?l16 ?c16 ?k16 ?a17 ?l17 ?c17 ?k17 ?a18 ?l18 ?c18 ?k18 ?a19 ?l19 ?c19 ?k19 ?a20 ?l20 ?c20 ?k20 ?a21 ?l21 ?c21 ?k21 ?a22 ?l22 ?c22 ?k22 ?a23 ?l23 ?c23 ?k23 ?wJ ?rC ?wK ?rD ?z1 ?z2 ?z3 ?z4 ?z5 ?z6 ?z7 ?z8 ?z9 ?z10 ?z11 ?z12 ?z13 ?rE
  (case a1=>k_is); (case l1=>k_is); (case c1=>k_is); (case k1=>k_is)
  (case a2=>k_is); (case l2=>k_is); (case c2=>k_is); (case k2=>k_is)
  (case a3=>k_is); (case l3=>k_is); (case c3=>k_is); (case k3=>k_is)
  (case a4=>k_is); (case l4=>k_is); (case c4=>k_is); (case k4=>k_is)
  (case a5=>k_is); (case l5=>k_is); (case c5=>k_is); (case k5=>k_is)
  (case a6=>k_is); (case l6=>k_is); (case c6=>k_is); (case k6=>k_is)
  (case a7=>k_is); (case l7=>k_is); (case c7=>k_is); (case k7=>k_is)
  (case a8=>k_is); (case l8=>k_is); (case c8=>k_is); (case k8=>k_is)
  (case a9=>k_is); (case l9=>k_is); (case c9=>k_is); (case k9=>k_is)
  (case a10=>k_is); (case l10=>k_is); (case c10=>k_is); (case k10=>k_is)
  (case a11=>k_is); (case l11=>k_is); (case c11=>k_is); (case k11=>k_is)
  (case a12=>k_is); (case l12=>k_is); (case c12=>k_is); (case k12=>k_is)
  (case a13=>k_is); (case l13=>k_is); (case c13=>k_is); (case k13=>k_is)
  (case a14=>k_is); (case l14=>k_is); (case c14=>k_is); (case k14=>k_is)
  (case a15=>k_is); (case l15=>k_is); (case c15=>k_is); (case k15=>k_is)
  (case a16=>k_is); (case l16=>k_is); (case c16=>k_is); (case k16=>k_is)
  (case a17=>k_is); (case l17=>k_is); (case c17=>k_is); (case k17=>k_is)
  (case a18=>k_is); (case l18=>k_is); (case c18=>k_is); (case k18=>k_is)
  (case a19=>k_is); (case l19=>k_is); (case c19=>k_is); (case k19=>k_is)
  (case a20=>k_is); (case l20=>k_is); (case c20=>k_is); (case k20=>k_is)
  (case a21=>k_is); (case l21=>k_is); (case c21=>k_is); (case k21=>k_is)
  (case a22=>k_is); (case l22=>k_is); (case c22=>k_is); (case k22=>k_is)
  (case a23=>k_is); (case l23=>k_is); (case c23=>k_is); (case k23=>k_is)
  (case wJ=>k_is)
  (case rC=>k_is)
  (case wK=>k_exc)
  (case rD=>k_exc)
  (case z1=>k_is)
  (case z2=>k_is)
  (case z3=>k_is)
  (case z4=>k_is)
  (case z5=>k_is)
  (case z6=>k_is)
  (case z7=>k_is)
  (case z8=>k_is)
  (case z9=>k_is)
  (case z10=>k_is)
  (case z11=>k_is)
  (case z12=>k_is)
  (case z13=>k_is)
  (case rE=>k_is)
end
