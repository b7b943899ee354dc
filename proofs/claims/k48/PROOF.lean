import PyProof.Rows.All
import PySem.Str
import PySem.Sem
import PyProof.StrBlockL
import PyProof.Rows.Walk
import Wide.All
import OpenK.AllK
import Wide.FinOn
import Lean
import PyProof.EqAt
import PyProof.EqKinds
import PyProof.TupleCall
import PyProof.SeqRoads2
import PyProof.ExcArgs
import KE.KIsAll
import PyProof.DictIter
import PySem.Challenge.RW_risecount_k48_whole_sums
set_option Elab.async false
set_option linter.all false
set_option maxRecDepth 100000
set_option maxHeartbeats 3999999
section
namespace L3
open PySem
inductive D where
 | non
 | bl (b:Bool)
 | int (i:Int)
 | str (x:Str)
 | tup (xs:List D)
 | lst (xs:List D)
 | nN (ns:List Int)
 | kR (ks:List (Sum Int Str)) (xs:List D)
 | fC (q:Nat->Obj->Prop) (ks:List (Sum (Sum Int Str) (List (Sum (Sum Int Str) (List (Sum Int Str)))))) (xs:List D)
 | exc (c:Str) (a:Nat)
mutual
noncomputable def D.IG:D->Bool
 | .non=>true
 | .bl _=>true
 | .int _=>true
 | .str _=>true
 | .tup ds=>wH ds
 | .lst _=>false
 | .nN _=>true
 | .kR _ _=>false
 | .fC _ _ _=>false
 | .exc _ _=>true
noncomputable def wH:List D->Bool
 | []=>true
 | d::ds=>d.IG&&wH ds
end
noncomputable abbrev cD:=List (Option D)
inductive Sv where
 | no
 | ro (d:D)
 | ow (d:D)
noncomputable abbrev bF:=List Sv
noncomputable def Sv.all:Sv->Option D
 | .no=>none
 | .ro d=>some d
 | .ow d=>some d
noncomputable def Sv.rd:Sv->Option D
 | .ro d=>some d
 | _=>none
noncomputable def dR (ρ:bF):cD:=ρ.map Sv.all
noncomputable def lI (ρ:bF):cD:=ρ.map Sv.rd
end L3
namespace L4
open PySem L3
inductive M (α:Type) where
 | no
 | ex (c:Str)
 | ok (a:α)
inductive Out where
 | no
 | nx (ρ:bF)
 | rt (d:D)
 | ex (c:Str)
noncomputable abbrev EF:=cD->Option D
noncomputable abbrev TF:=cD->Option Bool
noncomputable abbrev AF:=cD->Option (List D)
noncomputable abbrev XF:=bF->Option (bF×D)
noncomputable abbrev SF:=bF->Out
noncomputable abbrev gH:=List D->M D
noncomputable def tD:Nat:=16777216
noncomputable def aB (i:Nat):EF:=fun ρ=>(ρ[i]?).join
noncomputable def eC (d:D):EF:=fun _=>some d
noncomputable def aE (g:D->D->Option D) (a b:EF):EF:=fun ρ=>(a ρ).bind fun x=>(b ρ).bind fun y=>g x y
noncomputable def nO:D->Option Bool
 | .bl b=>some b
 | .lst ds=>some (!ds.isEmpty)
 | .tup ds=>some (!ds.isEmpty)
 | _=>none
noncomputable def tV (f:EF):TF:=fun ρ=>(f ρ).bind nO
noncomputable def jL (t:TF):TF:=fun ρ=>(t ρ).map (!·)
noncomputable def uW (t u:TF):TF:=fun ρ=>(t ρ).bind fun b=>if b=true then u ρ else some false
noncomputable def FE (t u:TF):TF:=fun ρ=>(t ρ).bind fun b=>if b=true then some true else u ρ
noncomputable def rJ:D->Option Bool
 | .bl b=>some b
 | _=>none
noncomputable def mR (a b:EF):EF:=fun ρ=>(a ρ).bind fun x=>(rJ x).bind fun c=>if c=true then b ρ else some (.bl false)
noncomputable def eOr (a b:EF):EF:=fun ρ=>(a ρ).bind fun x=>(rJ x).bind fun c=>if c=true then some (.bl true) else b ρ
noncomputable def AH (a:EF):EF:=fun ρ=>(a ρ).bind fun x=>(rJ x).map fun c=>.bl (!c)
noncomputable def U5 (t:TF) (a b:EF):EF:=fun ρ=>(t ρ).bind fun c=>if c=true then a ρ else b ρ
noncomputable def U6:D->Option D
 | .int i=>some (.int (-i))
 | _=>none
noncomputable def CZ (a:EF):EF:=fun ρ=>(a ρ).bind U6
noncomputable def mS (f g:D->D->Option D) (a b c:EF):EF:=fun ρ=>(a ρ).bind fun x=>(b ρ).bind fun y=>(f x y).bind fun z=>(rJ z).bind fun k=>if k=true then (c ρ).bind fun w=>g y w else some (.bl false)
noncomputable def II (g:Int->Int->D):D->D->Option D
 | .int i,.int j=>some (g i j)
 | _,_=>none
noncomputable def p5 (c:Int->Int->Bool) (g:Int->Int->D):D->D->Option D
 | .int i,.int j=>if c i j=true then some (g i j) else none
 | _,_=>none
noncomputable def bO:D->D->Option D
 | .int i,.int j=>some (.int (i+j))
 | .lst a,.lst b=>if a.length+b.length<=tD then some (.lst (a++b)) else none
 | .tup a,.tup b=>if a.length+b.length<=tD then some (.tup (a++b)) else none
 | .str a,.str b=>if a.length+b.length<=tD then some (.str (a++b)) else none
 | _,_=>none
noncomputable def dZ:D->D->Option D:=II fun i j=>.int (i - j)
noncomputable def wJ (i j:Int):Bool:=decide (i.natAbs<18446744073709551616)||decide (j.natAbs<18446744073709551616)||decide (i.natAbs.log2+j.natAbs.log2<=134217700)
noncomputable def mulM:D->D->Option D:=p5 wJ fun i j=>.int (i*j)
noncomputable def iJ:D->D->Option D:=p5 (fun _ j=>decide (0<j)) fun i j=>.int (i % j)
noncomputable def tF:D->D->Option D:=p5 (fun _ j=>decide (0<j)&&decide (j.natAbs<1073741824)) fun i j=>.int (i / j)
noncomputable def uX:D->D->Option D:=p5 (fun i j=>decide (0<=j)&&decide (j.natAbs<=1000000)&&decide (i.natAbs<18446744073709551616)) fun i j=>.int (i ^ j.toNat)
noncomputable def U7:D->D->Option D:=II fun i j=>.bl (decide (i<j))
noncomputable def leM:D->D->Option D:=II fun i j=>.bl (decide (i<=j))
noncomputable def AG:D->D->Option D:=II fun i j=>.bl (decide (j<i))
noncomputable def geM:D->D->Option D:=II fun i j=>.bl (decide (j<=i))
noncomputable def YF:D->D->Option Bool
 | .int i,.int j=>some (decide (i=j))
 | .bl i,.bl j=>some (decide (i=j))
 | .str i,.str j=>some (decide (i=j))
 | .non,.non=>some true
 | _,_=>none
noncomputable def tG:D->D->Option D:=fun x y=>(YF x y).map .bl
noncomputable def U0:D->D->Option D:=fun x y=>(YF x y).map fun b=>.bl (!b)
noncomputable def wK:D->Bool
 | .non=>true
 | _=>false
noncomputable def U8:D->D->Option D:=fun x y=>if wK y=true then some (.bl (wK x)) else none
noncomputable def intsOf:List D->Option (List Int)
 | []=>some []
 | .int i::ds=>(intsOf ds).map (i :: ·)
 | _::_=>none
noncomputable def tH (neg:Bool):D->D->Option D
 | .int i,.tup ds=>(intsOf ds).map fun ns=>.bl (if neg then !ns.contains i else ns.contains i)
 | .int i,.lst ds=>(intsOf ds).map fun ns=>.bl (if neg then !ns.contains i else ns.contains i)
 | _,_=>none
noncomputable def P0 (n:Nat) (i:Int):Option Nat:=if 0<=i then (if i<n then some i.toNat else none) else if -(n:Int)<=i then some (i+n).toNat else none
noncomputable def FF {α:Type} (xs:List α) (i:Int):Option α:=(P0 xs.length i).bind fun j=>xs[j]?
noncomputable def fA:D->D->Option D
 | .lst a,.int i=>FF a i
 | .tup a,.int i=>FF a i
 | .nN a,.int i=>(FF a i).map D.int
 | _,_=>none
noncomputable def wL:D->Option (Sum Int Str)
 | .int i=>some (.inl i)
 | .str x=>some (.inr x)
 | _=>none
noncomputable def kX (ks:List (Sum Int Str)) (ds:List D) (k:Sum Int Str):Option D:=((ks.zip ds).find? fun kv=>decide (kv.1=k)).map (·.2)
noncomputable def wM:D->D->Option D
 | .kR ks ds,d=>(wL d).bind fun k=>kX ks ds k
 | _,_=>none
noncomputable def aC:AF:=fun _=>some []
noncomputable def aA (a:EF) (t:AF):AF:=fun ρ=>(a ρ).bind fun d=>(t ρ).bind fun ds=>some (d::ds)
noncomputable def lJ (t:AF):EF:=fun ρ=>(t ρ).bind fun ds=>if ds.length<=tD then some (.tup ds) else none
noncomputable def eW (t:AF):EF:=fun ρ=>(t ρ).bind fun ds=>if ds.length<=tD then some (.lst ds) else none
noncomputable def cB (g:List D->Option D) (t:AF):EF:=fun ρ=>(t ρ).bind g
noncomputable def FL:M D->Option D
 | .ok d=>some d
 | _=>none
noncomputable def aI (R:gH) (t:AF):EF:=fun ρ=>(t ρ).bind fun ds=>FL (R ds)
noncomputable def bY:List D->Option D
 | [.lst a]=>some (.int a.length)
 | [.tup a]=>some (.int a.length)
 | [.nN a]=>some (.int a.length)
 | _=>none
noncomputable def cP:List D->Option D
 | [.lst a]=>some (.tup a)
 | [.tup a]=>some (.tup a)
 | _=>none
noncomputable def P1:List D->Option D
 | [.lst a]=>some (.lst a)
 | [.tup a]=>some (.lst a)
 | _=>none
noncomputable def insI (a:Int):List Int->List Int
 | []=>[a]
 | b::l=>if a<=b then a::b::l else b::insI a l
noncomputable def sortI:List Int->List Int
 | []=>[]
 | a::l=>insI a (sortI l)
noncomputable def iZ:List D->Option D
 | [.lst a]=>(intsOf a).bind fun ns=>if ns.length<64 then some (.lst ((sortI ns).map D.int)) else none
 | _=>none
noncomputable def C0:List D->Option D
 | [.lst a]=>(intsOf a).map fun ns=>.int ns.sum
 | _=>none
noncomputable def qF:List D->Option (List Bool)
 | []=>some []
 | d::ds=>(nO d).bind fun b=>(qF ds).map (b :: ·)
noncomputable def allM:List D->Option D
 | [.lst a]=>(qF a).map fun bs=>.bl (bs.all id)
 | _=>none
noncomputable def anyM:List D->Option D
 | [.lst a]=>(qF a).map fun bs=>.bl (bs.any id)
 | _=>none
noncomputable def tyM:D->String
 | .non => "NoneType"
 | .bl _ => "bool"
 | .int _ => "int"
 | .str _ => "str"
 | .tup _ => "tuple"
 | .lst _ => "list"
 | .nN _ => "list"
 | .kR _ _ => "dict"
 | .fC _ _ _ => "dict"
 | .exc _ _ => "NoneType"
noncomputable def IJ (T:String) (d:D):Bool:=tyM d == T||(T == "int" && tyM d == "bool")
noncomputable def IK:D->Bool
 | .exc _ _=>false
 | .fC _ _ _=>false
 | _=>true
noncomputable def j5 (T:String) (a:EF):EF:=fun ρ=>(a ρ).bind fun d=>if IK d=true then some (.bl (IJ T d)) else none
noncomputable def aR (lo:Int) (n:Nat):List Int:=(List.range n).map fun k:Nat=>lo+(k:Int)
noncomputable def aGX (hi:Int) (n:Nat):List Int:=(List.range n).map fun k:Nat=>hi - (k:Int)
noncomputable def IL (t:AF):EF:=fun ρ=>(t ρ).bind fun ds=>match ds with
 | [.int j]=>if j.natAbs<=16777216 then some (.lst ((aR 0 j.toNat).map D.int)) else none
 | _=>none
noncomputable def uH (t:AF):EF:=fun ρ=>(t ρ).bind fun ds=>match ds with
 | [.int j]=>if j.natAbs<=16777216 then some (.tup ((aR 0 j.toNat).map D.int)) else none
 | [.int i,.int j]=>if i.natAbs<=8388608/\j.natAbs<=8388608 then some (.tup ((aR i (j - i).toNat).map D.int)) else none
 | _=>none
noncomputable def qG:List D->Option D
 | [.int i]=>some (.int i)
 | [.bl b]=>some (.int (if b=true then 1 else 0))
 | _=>none
noncomputable def p6:List D->Option D
 | [.int i,.int j]=>some (.int (if j>i then j else i))
 | _=>none
noncomputable def FM:List D->Option D
 | [.int i,.int j]=>some (.int (if j<i then j else i))
 | _=>none
noncomputable def repLM:D->D->Option D
 | .lst a,.int n=>if a.length*n.toNat<=tD/\n.natAbs<9223372036854775808 then some (.lst (List.replicate n.toNat a).flatten) else none
 | _,_=>none
noncomputable def M8:D->D->Option D
 | .lst a,.lst b=>if a.length+b.length<=tD then some (.lst (a++b)) else none
 | _,_=>none
noncomputable def FN:D->Option (List D)
 | .lst ds=>some ds
 | .tup ds=>some ds
 | _=>none
noncomputable def cU (f:EF):AF:=fun ρ=>(f ρ).bind FN
noncomputable def IM:List D->Option (List D)
 | [.int j]=>if j.natAbs<4611686018427387904 then some ((aR 0 j.toNat).map D.int) else none
 | [.int i,.int j]=>if i.natAbs<4611686018427387904/\j.natAbs<4611686018427387904 then some ((aR i (j - i).toNat).map D.int) else none
 | [.int i,.int j,.int k]=>if k=-1/\i.natAbs<1000000/\j.natAbs<1000000 then some ((aGX i (i - j).toNat).map D.int) else none
 | _=>none
noncomputable def aU (t:AF):AF:=fun ρ=>(t ρ).bind IM
noncomputable def K9:List D->Option (List D)
 | [.lst ds]=>some (ds.zipIdx.map fun p=>.tup [.int (p.2:Int),p.1])
 | [.tup ds]=>some (ds.zipIdx.map fun p=>.tup [.int (p.2:Int),p.1])
 | _=>none
noncomputable def rK (t:AF):AF:=fun ρ=>(t ρ).bind K9
noncomputable def aGY:List D->Option (List D)
 | [a,b]=>(FN a).bind fun xs=>(FN b).map fun ys=>(xs.zip ys).map fun p=>.tup [p.1,p.2]
 | _=>none
noncomputable def ZG (t:AF):AF:=fun ρ=>(t ρ).bind aGY
noncomputable def ZH:List D->Option (List D)
 | [.lst ds]=>some ds.reverse
 | [.tup ds]=>some ds.reverse
 | _=>none
noncomputable def M9 (t:AF):AF:=fun ρ=>(t ρ).bind ZH
noncomputable abbrev IN:=D->cD->Option cD
noncomputable def g1 (i:Nat):IN:=fun d ρ=>some (ρ.set i (some d))
noncomputable def AZ:D->Option (D×D)
 | .tup [x,y]=>some (x,y)
 | _=>none
noncomputable def g2 (i j:Nat):IN:=fun d ρ=>(AZ d).map fun p=>(ρ.set i (some p.1)).set j (some p.2)
noncomputable def cL:TF:=fun _=>some true
noncomputable def benv (nl:Nat) (fr:List Nat) (ρ:cD):cD:=List.replicate nl none++fr.map fun j=>(ρ[j]?).join
noncomputable def j6 (g:IN) (t:TF) (e:EF) (ρ:cD):List D->Option (List D)
 | []=>some []
 | d::ds=>(g d ρ).bind fun ρ1=>(t ρ1).bind fun b=>if b=true then (e ρ1).bind fun y=>(j6 g t e ρ ds).map (y :: ·) else j6 g t e ρ ds
noncomputable def bV (nl:Nat) (fr:List Nat) (it:AF) (g:IN) (t:TF) (e:EF):EF:=fun ρ=>(it ρ).bind fun ds=>if ds.length<=tD then (j6 g t e (benv nl fr ρ) ds).map D.lst else none
noncomputable abbrev OF:=cD->Option (Option Int)
noncomputable def U9:OF:=fun _=>some none
noncomputable def asInt:D->Option Int
 | .int i=>some i
 | _=>none
noncomputable def oE (f:EF):OF:=fun ρ=>(f ρ).bind fun d=>(asInt d).map some
noncomputable def P2 (n d:Nat):Option Int->Nat
 | none=>d
 | some i=>if i<0 then (i+n).toNat else min i.toNat n
noncomputable def NA (xs:List D) (lo hi:Option Int):List D:=(xs.drop (P2 xs.length 0 lo)).take (P2 xs.length xs.length hi - P2 xs.length 0 lo)
noncomputable def slM (d:D) (lo hi:Option Int):Option D:=match d with
 | .lst ds=>some (.lst (NA ds lo hi))
 | .tup ds=>some (.tup (NA ds lo hi))
 | _=>none
noncomputable def VA (f:EF) (lo hi:OF):EF:=fun ρ=>(f ρ).bind fun d=>(lo ρ).bind fun l=>(hi ρ).bind fun h=>slM d l h
noncomputable def p7 (f:EF):XF:=fun ρ=>(f (dR ρ)).bind fun d=>if d.IG=true then some (ρ,d) else none
noncomputable def bT (f:EF):XF:=fun ρ=>(f (lI ρ)).bind fun d=>some (ρ,d)
noncomputable def qH:Option Sv->Option (List D)
 | some (.ow (.lst ds))=>some ds
 | _=>none
noncomputable def rH (i:Nat) (m:List D->D->Option (List D×D)) (x:XF):XF:=fun ρ=>(qH ρ[i]?).bind fun _=>(x ρ).bind fun p=>(qH p.1[i]?).bind fun ds=>(m ds p.2).map fun q=>(p.1.set i (.ow (.lst q.1)),q.2)
noncomputable def iK:List D->D->Option (List D×D):=fun ds d=>if ds.length<tD then some (ds++[d],.non) else none
noncomputable def VB:List D->D->Option (List D×D)
 | ds,.int k=>if k.natAbs<9223372036854775808 then (P0 ds.length k).bind fun j=>(ds[j]?).map fun d=>(ds.eraseIdx j,d) else none
 | _,_=>none
noncomputable def aGZ:List D->D->Option (List D×D)
 | ds,.lst es=>if ds.length+es.length<=tD then some (ds++es,.non) else none
 | _,_=>none
noncomputable def aBq (i:Nat):XF:=fun ρ=>(qH ρ[i]?).bind fun ds=>(ds[ds.length - 1]?).map fun d=>(ρ.set i (.ow (.lst ds.dropLast)),d)
noncomputable def eJ:SF:=fun ρ=>.nx ρ
noncomputable def aJ (f g:SF):SF:=fun ρ=>match f ρ with
 | .nx ρ'=>g ρ'
 | o=>o
noncomputable def bD (f:EF):SF:=fun ρ=>match f (dR ρ) with
 | some d=>.rt d
 | none=>.no
noncomputable def iF (t:TF) (a b:SF):SF:=fun ρ=>match t (dR ρ) with
 | some true=>a ρ
 | some false=>b ρ
 | none=>.no
noncomputable def aT (i:Nat) (f:EF):SF:=fun ρ=>match f (lI ρ) with
 | some d=>.nx (ρ.set i (.ro d))
 | none=>.no
noncomputable def LA (i:Nat) (x:XF):SF:=fun ρ=>match x ρ with
 | some p=>.nx (p.1.set i (.ro p.2))
 | none=>.no
noncomputable def hW (i:Nat) (f:EF):SF:=fun ρ=>match f (lI ρ) with
 | some d=>.nx (ρ.set i (.ow d))
 | none=>.no
noncomputable def wN:D->Bool
 | .lst ds=>wH ds
 | _=>false
noncomputable def P3 (i:Nat) (f:EF):SF:=fun ρ=>match f (dR ρ) with
 | some d=>if wN d=true then .nx (ρ.set i (.ow d)) else .no
 | none=>.no
noncomputable def wQ (i:Nat) (f:EF):SF:=fun ρ=>match f (dR ρ) with
 | some d=>if wN d=true then .nx (ρ.set i (.ro d)) else .no
 | none=>.no
noncomputable def FO (i:Nat):SF:=fun ρ=>.nx (ρ.set i (.ow (.kR [] [])))
noncomputable def sX (x:XF):SF:=fun ρ=>match x ρ with
 | some p=>.nx p.1
 | none=>.no
noncomputable def uY (i:Nat) (x:XF) (k:EF):SF:=fun ρ=>match ((x ρ).bind fun p=>(qH p.1[i]?).bind fun ds=>(k (dR p.1)).bind fun kd=>(asInt kd).bind fun kk=>(P0 ds.length kk).map fun j=>p.1.set i (.ow (.lst (ds.set j p.2)))) with
 | some ρ'=>.nx ρ'
 | none=>.no
noncomputable def wR:Option Sv->Option (List (Sum Int Str)×List D)
 | some (.ow (.kR ks ds))=>some (ks,ds)
 | _=>none
noncomputable def LB (i:Nat) (x:XF) (k:EF):SF:=fun ρ=>match ((x ρ).bind fun p=>(wR p.1[i]?).bind fun kd=>(k (dR p.1)).bind fun kv=>(wL kv).bind fun kk =>
  if (kX kd.1 kd.2 kk).isNone=true/\kd.2.length<tD then some (p.1.set i (.ow (.kR (kd.1++[kk]) (kd.2++[p.2])))) else none) with
 | some ρ'=>.nx ρ'
 | none=>.no
noncomputable abbrev P4:=D->bF->Option bF
noncomputable def j8 (i:Nat):P4:=fun d ρ=>some (ρ.set i (.ro d))
noncomputable def ZI (i j:Nat):P4:=fun d ρ=>(AZ d).map fun p=>(ρ.set i (.ro p.1)).set j (.ro p.2)
noncomputable def jN (g:P4) (b:SF):List D->bF->Out
 | [],ρ=>.nx ρ
 | d::ds,ρ=>match g d ρ with
  | none=>.no
  | some ρ1=>match b ρ1 with
   | .nx ρ2=>jN g b ds ρ2
   | o=>o
noncomputable def dQ (it:AF) (g:P4) (b:SF):SF:=fun ρ=>match it (lI ρ) with
 | some ds=>jN g b ds ρ
 | none=>.no
noncomputable def fQ (t:TF) (b:SF):Nat->bF->Out
 | 0,_=>.no
 | n+1,ρ=>match t (dR ρ) with
  | none=>.no
  | some false=>.nx ρ
  | some true=>match b ρ with
   | .nx ρ'=>fQ t b n ρ'
   | o=>o
noncomputable def C2:Nat:=1000000
noncomputable def IP (n:Nat) (t:TF) (b:SF):SF:=fQ t b n
noncomputable def eA (n:Nat) (ds:List D):bF:=ds.map Sv.ro++List.replicate (n - ds.length) Sv.no
noncomputable def cM (n np:Nat) (b:SF):gH:=fun ds=>if ds.length=np then (match b (eA n ds) with
 | .rt d=>.ok d
 | .nx _=>.ok .non
 | .ex c=>.ex c
 | .no=>.no) else .no
end L4
end
section
namespace L4
open PySem L3
noncomputable def aBr:List Int->List Int->Bool
 | [],[]=>false
 | [],_::_=>true
 | _::_,[]=>false
 | a::as,b::bs=>if a=b then aBr as bs else decide (a<b)
noncomputable def aBs (t:List Int):List (List Int)->List (List Int)
 | []=>[t]
 | u::us=>if aBr u t=true then u::aBs t us else t::u::us
noncomputable def P5:List (List Int)->List (List Int)
 | []=>[]
 | t::ts=>aBs t (P5 ts)
noncomputable def aG0 (t:List Int):D:=.tup (t.map D.int)
noncomputable def aBt:D->Option (List Int)
 | .tup ds=>intsOf ds
 | _=>none
noncomputable def P6:List D->Option (List (List Int))
 | []=>some []
 | d::ds=>(aBt d).bind fun t=>(P6 ds).map (t :: ·)
noncomputable def C4:List D->Option D
 | [.lst a]=>(P6 a).bind fun ts=>if ts.length<64/\ts.all (fun t=>!t.isEmpty)=true then some (.lst ((P5 ts).map aG0)) else none
 | _=>none
noncomputable def aBu (f:D->D->Option Bool):List D->List D->Option Bool
 | d::ds,e::es=>(f d e).bind fun x=>(aBu f ds es).map (x && ·)
 | _,_=>some true
noncomputable def eqP:Nat->D->D->Option Bool
 | _,.int i,.int j=>some (decide (i=j))
 | _,.bl i,.bl j=>if i=j then some true else none
 | _,.str i,.str j=>if i=j then some true else none
 | n+1,.tup a,.tup b=>(aBu (eqP n) a b).map fun r=>r&&decide (a.length=b.length)
 | _,_,_=>none
noncomputable def aBv:D->D->Option D:=fun x y=>(eqP 8 x y).map D.bl
noncomputable def aG1 (ρ:bF) (i:Nat):bF:=match ρ[i]? with
 | some (.ow d)=>ρ.set i (.ro d)
 | _=>ρ
noncomputable def P7 (i:Nat) (f:SF):SF:=fun ρ=>f (aG1 ρ i)
noncomputable def aG2:List D->Option D
 | [.lst [d]]=>some (.lst [d])
 | ds=>C4 ds
noncomputable def aBw:List D->Option D
 | [.tup a]=>(intsOf a).map fun ns=>.int ns.sum
 | _=>none
noncomputable def aOL:D->Option D
 | .lst ds=>some (.lst ds.reverse)
 | _=>none
noncomputable def aG3:D->D->Option Bool
 | .lst a,.lst b=>(intsOf a).bind fun x=>(intsOf b).map fun y=>decide (x=y)
 | _,_=>none
noncomputable def nP:List D->Option D
 | [.tup ds]=>(intsOf ds).bind fun ns=>if ns.length<64 then some (.lst ((sortI ns).map D.int)) else none
 | _=>none
noncomputable abbrev uZ:Nat->Obj->Prop:=fun _ _=>True
noncomputable def adr (q:Nat->Obj->Prop):Nat->Obj->Prop:=fun a _=>∃ o,q a o
noncomputable abbrev IQ:=Sum Int Str
noncomputable abbrev PN1:=List (Sum IQ (List IQ))
noncomputable abbrev wU:=Sum IQ PN1
noncomputable def A1:List D->Option (List IQ)
 | []=>some []
 | d::ds=>(wL d).bind fun k=>(A1 ds).map (k :: ·)
noncomputable def P8:D->Option (Sum IQ (List IQ))
 | .tup ds=>(A1 ds).map .inr
 | d=>(wL d).map .inl
noncomputable def wV:List D->Option PN1
 | []=>some []
 | d::ds=>(P8 d).bind fun k=>(wV ds).map (k :: ·)
noncomputable def tI:D->Option wU
 | .tup ds=>(wV ds).map .inr
 | d=>(wL d).map .inl
noncomputable def cV (ks:List wU) (ds:List D) (k:wU):Option D:=((ks.zip ds).find? fun p=>decide (p.1=k)).map (·.2)
noncomputable def kindB (ks:List wU) (k:wU):Bool:=ks.all fun q=>q.isLeft == k.isLeft
noncomputable def aBx:D->D->Option D
 | .fC _ ks ds,d=>(tI d).bind fun k=>if kindB ks k=true then cV ks ds k else none
 | _,_=>none
noncomputable def NB (neg:Bool):D->D->Option D
 | d,.fC _ ks ds=>(tI d).bind fun k=>if kindB ks k=true then some (.bl (if neg then !(cV ks ds k).isSome else (cV ks ds k).isSome)) else none
 | _,_=>none
noncomputable def gC (ks:List wU) (ds:List D) (k:wU) (v:D):List wU×List D :=
 if ks.any (fun q=>decide (q=k))=true then (ks,(ks.zip ds).map fun p=>if p.1=k then v else p.2) else (ks++[k],ds++[v])
noncomputable def NC:Option Sv->Option ((Nat->Obj->Prop)×List wU×List D)
 | some (.ow (.fC q ks ds))=>some (q,ks,ds)
 | _=>none
noncomputable def YG (i:Nat):SF:=fun ρ=>.nx (ρ.set i (.ow (.fC uZ [] [])))
noncomputable def A2 (i:Nat) (x:XF) (k:EF):SF:=fun ρ=>match ((x ρ).bind fun p=>(NC p.1[i]?).bind fun kd=>(k (dR p.1)).bind fun kv=>(tI kv).bind fun kk =>
  if kindB kd.2.1 kk=true/\kd.2.2.length<tD then some (p.1.set i (.ow (.fC (adr kd.1) (gC kd.2.1 kd.2.2 kk p.2).1 (gC kd.2.1 kd.2.2 kk p.2).2))) else none) with
 | some ρ'=>.nx ρ'
 | none=>.no
noncomputable def YH:List D->Option (List D)
 | [.lst xs,.lst ys]=>some ((xs.zip ys).map fun p=>.tup [p.1,p.2])
 | _=>none
noncomputable def uI (t:AF):AF:=fun ρ=>(t ρ).bind YH
noncomputable def aG4:List Int->Int
 | []=>0
 | a::l=>l.foldl (fun m b=>if b<m then b else m) a
noncomputable def YI:List D->Option D
 | [.tup ds]=>(intsOf ds).bind fun ns=>if ns=[] then none else some (.int (aG4 ns))
 | _=>none
noncomputable def aG5:D->D->Option D:=fun x y=>(aG3 x y).map D.bl
noncomputable abbrev KD:=List wU×List D
noncomputable abbrev VC:=List D->KD->M (D×KD)
noncomputable def startM (n:Nat) (ds:List D) (q:Nat->Obj->Prop) (kd:KD):bF:=ds.map Sv.ro++Sv.ow (.fC q kd.1 kd.2)::List.replicate (n - (ds.length+1)) Sv.no
noncomputable def VD (j:Nat) (k:EF) (q:Nat->Obj->Prop):bF->Option (D×KD):=fun ρ=>(NC ρ[j]?).bind fun kd=>(k (lI ρ)).bind fun kv=>(tI kv).bind fun kk=>@ite _ (kindB kd.2.1 kk=true /\ ∀ a o,kd.1 a o -> ∃ o2,q a o2) (Classical.propDecidable _) ((cV kd.2.1 kd.2.2 kk).map fun d=>(d,kd.2)) none
noncomputable def wW (n np:Nat) (b:SF) (k:EF) (q:Nat->Obj->Prop) (ds:List D) (kd:KD):Option (D×KD):=if ds.length+1=np then (match b (startM n ds q kd) with
 | .nx ρ=>VD (np - 1) k q ρ
 | _=>none) else none
noncomputable def runM (n np:Nat) (b:SF) (k:EF):VC:=fun ds kd=>@dite _ (∃ r,∀ q,wW n np b k q ds kd=some r) (Classical.propDecidable _) (fun h=>.ok h.choose) fun _=>.no
theorem LC {n np:Nat} {b:SF} {k:EF} {ds:List D} {kd:KD} {r:D×KD} (h:runM n np b k ds kd=.ok r) (q:Nat->Obj->Prop):wW n np b k q ds kd=some r:=by
 unfold runM at h
 split at h
 ·rename_i hx
  cases h
  exact hx.choose_spec q
 ·cases h
theorem VE {n np:Nat} {b:SF} {k:EF} {ds:List D} {kd:KD} {r:D×KD} (h:∀ q,wW n np b k q ds kd=some r):runM n np b k ds kd=.ok r:=by
 have hx:∃ r,∀ q,wW n np b k q ds kd=some r:=⟨r,h⟩
 unfold runM
 rw [dif_pos hx]
 have e:=hx.choose_spec uZ
 rw [h uZ] at e
 rw [Option.some.inj e]
noncomputable def stepM (R:VC) (t:AF) (j:Nat) (ρ:bF):Option ((Nat->Obj->Prop)×D×KD):=(t (lI ρ)).bind fun ds=>(NC ρ[j]?).bind fun kd=>match R ds kd.2 with
 | .ok r=>some (kd.1,r)
 | _=>none
noncomputable def tJ (i:Nat) (R:VC) (t:AF) (j:Nat):SF:=fun ρ=>match stepM R t j ρ with
 | some r=>.nx ((ρ.set j (.ow (.fC (adr r.1) r.2.2.1 r.2.2.2))).set i (.ro r.2.1))
 | none=>.no
noncomputable def VF (R:VC) (t:AF) (j:Nat):SF:=fun ρ=>match stepM R t j ρ with
 | some r=>.nx (ρ.set j (.ow (.fC (adr r.1) r.2.2.1 r.2.2.2)))
 | none=>.no
end L4
end
section
namespace Ord
structure Rows (rows:List (List Int)):Prop where
 up:∀ (b:Nat) (r:List Int),rows[b]? = some r->r.Pairwise (·<·)
 rng:∀ (b:Nat) (r:List Int),rows[b]? = some r -> ∀ a∈r,0<=a/\a<(rows.length:Int)
 tr:∀ (b a:Nat) (r v:List Int),rows[b]? = some r->(a:Int)∈r->rows[a]? = some v -> ∀ c∈v,c∈r
 irr:∀ (b:Nat) (r:List Int),rows[b]? = some r->(b:Int)∉r
theorem wZ {α:Type}:∀ (l:List α) (j:Nat) (x:α),l[j]? = some x->(x::l.eraseIdx j).Perm l
 | [],j,x,h=>by simp at h
 | a::l,0,x,h=>by simp at h; subst h; simp
 | a::l,j+1,x,h=>by
  have ih:=wZ l j x (by simpa using h)
  rw [List.eraseIdx_cons_succ]
  exact (List.Perm.swap a x _).trans (ih.cons a)
theorem C5 {l:List Int} (p:Int->Bool) (h:l.Nodup):(l.filter p).Nodup:=List.Pairwise.filter p h
noncomputable def Under (word:List Int) (us:List (List Int)) (t:Nat) (u:List Int):Prop :=
 u.Nodup /\ ∀ a∈u,∃ (s:Nat) (v:List Int),s<t/\word[s]? = some a/\us[s]? = some v /\ ∀ c∈v,c∈u
noncomputable def Good (word:List Int) (us:List (List Int)):Prop:=∀ (t:Nat) (u:List Int),us[t]? = some u->Under word us t u
theorem Under.mono {word:List Int} {us:List (List Int)} {t t':Nat} {u:List Int} (h:Under word us t u) (ht:t<=t'):Under word us t' u :=
 ⟨h.1,fun a ha=>by obtain ⟨s,v,h1,h2,h3,h4⟩:=h.2 a ha; exact ⟨s,v,by omega,h2,h3,h4⟩⟩
theorem w4 {word:List Int} (h:word.Nodup) {i j:Nat} {a:Int} (hi:word[i]? = some a) (hj:word[j]? = some a):i=j:=by
 obtain ⟨h1,e1⟩:=List.getElem?_eq_some_iff.mp hi
 obtain ⟨h2,e2⟩:=List.getElem?_eq_some_iff.mp hj
 exact (List.getElem_inj h).mp (e1.trans e2.symm)
theorem Under.step {word:List Int} {us:List (List Int)} {i:Nat} {u v:List Int} {x:Int} (hw:word.Nodup) (g:Good word us) (h:Under word us i u) (hx:word[i]? = some x) (hv:us[i]? = some v) :
  Under word us (i+1) (u++(v++[x]).filter fun a=>!u.contains a):=by
 have gv:=g i v hv
 have mem:∀ c,c∈v++[x]->c∈u++(v++[x]).filter fun a=>!u.contains a:=fun c hc=>by
  by_cases hu:c∈u
  ·exact List.mem_append_left _ hu
  ·exact List.mem_append_right _ (List.mem_filter.mpr ⟨hc,by simpa using hu⟩)
 have nv:(v++[x]).Nodup:=by
  refine List.nodup_append.mpr ⟨gv.1,by simp,fun a ha b hb e=>?_⟩
  have hb:=List.mem_singleton.mp hb
  subst hb
  subst e
  obtain ⟨s,_,h1,h2,_⟩:=gv.2 a ha
  have:=w4 hw h2 hx
  omega
 refine ⟨List.nodup_append.mpr ⟨h.1,C5 _ nv,fun a ha b hb e=>?_⟩,fun a ha=>?_⟩
 ·subst e
  have:=(List.mem_filter.mp hb).2
  simp at this
  exact this ha
 ·rcases List.mem_append.mp ha with h1 | h1
  ·obtain ⟨s,z,a1,a2,a3,a4⟩:=h.2 a h1
   exact ⟨s,z,by omega,a2,a3,fun c hc=>List.mem_append_left _ (a4 c hc)⟩
  ·rcases List.mem_append.mp (List.mem_filter.mp h1).1 with h2 | h2
   ·obtain ⟨s,z,a1,a2,a3,a4⟩:=gv.2 a h2
    exact ⟨s,z,by omega,a2,a3,fun c hc=>mem c (List.mem_append_left _ (a4 c hc))⟩
   ·have e:=List.mem_singleton.mp h2
    subst e
    exact ⟨i,v,by omega,hx,hv,fun c hc=>mem c (List.mem_append_left _ hc)⟩
theorem Good.snoc {word:List Int} {us:List (List Int)} {u:List Int} (g:Good word us) (h:Under word us us.length u):Good word (us++[u]):=fun t z e=>by
 have old:∀ {s:Nat} {v:List Int},us[s]? = some v->(us++[u])[s]? = some v:=fun {s v} e=>by rw [List.getElem?_append_left (List.getElem?_eq_some_iff.mp e).1]; exact e
 have up:∀ {t:Nat} {z:List Int},Under word us t z->Under word (us++[u]) t z:=fun {t z} q=>⟨q.1,fun a ha=>by obtain ⟨s,v,a1,a2,a3,a4⟩:=q.2 a ha; exact ⟨s,v,a1,a2,old a3,a4⟩⟩
 by_cases ht:t<us.length
 ·rw [List.getElem?_append_left ht] at e
  exact up (g t z e)
 ·have et:t=us.length:=by
   have:=(List.getElem?_eq_some_iff.mp e).1
   simp at this
   omega
  subst et
  rw [List.getElem?_append_right (Nat.le_refl _),Nat.sub_self] at e
  have e:u=z:=by simpa using e
  subst e
  exact up h
theorem Good.rows {word:List Int} {us rows:List (List Int)} {n:Nat} (g:Good word us) (hu:us.length=n) (hw:word.Perm ((List.range n).map fun k:Nat=>(k:Int))) (hr:rows.length=n)
  (h:∀ (b t:Nat) (r u:List Int),rows[b]? = some r->word[t]? = some (b:Int)->us[t]? = some u->r.Perm u/\r.Pairwise (· <= ·)):Rows rows:=by
 have nd:word.Nodup:=hw.nodup_iff.mpr (by
  refine List.Pairwise.map _ (fun a b hab=>?_) List.nodup_range
  intro e
  exact hab (by omega))
 have find:∀ (b:Nat),b<n -> ∃ t u,word[t]? = some (b:Int)/\us[t]? = some u:=fun b hb=>by
  have hm:(b:Int)∈word:=hw.mem_iff.mpr (List.mem_map.mpr ⟨b,List.mem_range.mpr hb,rfl⟩)
  obtain ⟨t,ht⟩:=List.mem_iff_getElem?.mp hm
  have hl:word.length=n:=by rw [hw.length_eq,List.length_map,List.length_range]
  have:=(List.getElem?_eq_some_iff.mp ht).1
  exact ⟨t,us[t]'(by omega),ht,List.getElem?_eq_getElem (by omega)⟩
 have row:∀ (b:Nat) (r:List Int),rows[b]? = some r -> ∃ t u,word[t]? = some (b:Int)/\us[t]? = some u/\r.Perm u/\r.Pairwise (· <= ·):=fun b r e=>by
  have hb:=(List.getElem?_eq_some_iff.mp e).1
  obtain ⟨t,u,h1,h2⟩:=find b (by omega)
  exact ⟨t,u,h1,h2,h b t r u e h1 h2⟩
 refine ⟨fun b r e=>?_,fun b r e a ha=>?_,fun b a r v e ha ev c hc=>?_,fun b r e hb=>?_⟩
 ·obtain ⟨t,u,h1,h2,h3,h4⟩:=row b r e
  have n1:r.Nodup:=h3.nodup_iff.mpr (g t u h2).1
  exact (List.pairwise_and_iff.mpr ⟨h4,n1⟩).imp fun q=>by have:=q.1; have:=q.2; omega
 ·obtain ⟨t,u,h1,h2,h3,h4⟩:=row b r e
  obtain ⟨s,z,_,a2,_⟩:=(g t u h2).2 a (h3.mem_iff.mp ha)
  have hm:=hw.mem_iff.mp (List.mem_of_getElem? a2)
  obtain ⟨k,hk,rfl⟩:=List.mem_map.mp hm
  have:=List.mem_range.mp hk
  omega
 ·obtain ⟨t,u,h1,h2,h3,h4⟩:=row b r e
  obtain ⟨t2,u2,k1,k2,k3,k4⟩:=row a v ev
  obtain ⟨s,z,_,a2,a3,a4⟩:=(g t u h2).2 _ (h3.mem_iff.mp ha)
  have es:=w4 nd a2 k1
  subst es
  rw [k2] at a3
  cases a3
  exact h3.mem_iff.mpr (a4 c (k3.mem_iff.mp hc))
 ·obtain ⟨t,u,h1,h2,h3,h4⟩:=row b r e
  obtain ⟨s,z,a1,a2,_⟩:=(g t u h2).2 _ (h3.mem_iff.mp hb)
  have:=w4 nd a2 h1
  omega
noncomputable def tri:Nat->Nat
 | 0=>0
 | j+1=>tri j+j
theorem P9 {i j:Nat} (h:i<=j):tri i<=tri j:=by
 induction h with
 | refl=>exact Nat.le_refl _
 | step _ ih=>exact Nat.le_trans ih (Nat.le_add_right _ _)
theorem ZJ {n j i:Nat} (hj:j<n) (hi:i<j):tri j+i<tri n:=by
 have:=P9 (show j+1<=n by omega)
 show tri j+i<tri n
 have e:tri (j+1)=tri j+j:=rfl
 omega
theorem gQ:∀ (l m:List Int),l.Nodup->(∀ a∈l,a∈m)->l.length<=m.length
 | [],m,_,_=>Nat.zero_le _
 | a::l,m,h,hs=>by
  obtain ⟨h1,h2⟩:=List.nodup_cons.mp h
  have ha:=hs a List.mem_cons_self
  have ih:=gQ l (m.erase a) h2 fun b hb=>by
   have:b≠a:=fun e=>h1 (e▸hb)
   exact (List.mem_erase_of_ne this).mpr (hs b (List.mem_cons_of_mem _ hb))
  rw [List.length_erase_of_mem ha] at ih
  have:0<m.length:=List.length_pos_of_mem ha
  rw [List.length_cons]
  omega
end Ord
end
section
namespace LL
open PySem L3 L4
noncomputable def fD:gH:=cM 2 2
  (aJ (iF (tV (aE tG (cB bY (aA (aB 0) aC)) (eC (.int 0))))
   (bD (eC (.int 0)))
   eJ)
  (bD (aE fA (aB 0) (aE iJ (aB 1) (cB bY (aA (aB 0) aC))))))
noncomputable def fE:gH:=cM 5 3
  (aJ (aT 3 (aE iJ (aE mulM (aE bO (aE bO (aE bO (aB 0) (aE mulM (aE mulM (eC (.int 11)) (aB 1)) (aB 1))) (aE mulM (eC (.int 17)) (aB 1))) (aB 2)) (eC (.int 48271))) (eC (.int 2147483647))))
  (aJ (aT 4 (aE iJ (aE bO (aE bO (aE mulM (aB 3) (aE bO (aE tF (aB 3) (eC (.int 4096))) (eC (.int 5)))) (aE mulM (eC (.int 29)) (aB 1))) (aB 2)) (eC (.int 2147483629))))
  (bD (aE iJ (aE mulM (aB 4) (eC (.int 39373))) (eC (.int 1000000007))))))
noncomputable def fF:gH:=cM 6 3
  (aJ (hW 3 (eW aC))
  (aJ (aT 4 (eC (.int 0)))
  (aJ (iF (tV (aE geM (aB 0) (aE uX (eC (.int 10)) (eC (.int 18)))))
   (aT 4 (aB 0))
   eJ)
  (aJ (dQ (aU (aA (aB 1) aC)) (j8 5)
   (iF (tV (aE AG (aB 4) (eC (.int 0))))
    (aJ (sX (rH 3 iK (bT (aE iJ (aB 4) (eC (.int 64))))))
    (aT 4 (aE tF (aB 4) (eC (.int 64)))))
    (sX (rH 3 iK (bT (aI LL.fE (aA (aB 0) (aA (aB 5) (aA (aB 2) aC)))))))))
  (bD (aB 3))))))
noncomputable def bR:Nat->gH
 | 0=>fun _=>.no
 | n+1=>cM 2 2
  (aJ (iF (tV (j5 "tuple" (aB 1)))
   (aJ (iF (FE (jL (tV (j5 "tuple" (aB 0)))) (tV (aE U0 (cB bY (aA (aB 0) aC)) (cB bY (aA (aB 1) aC)))))
    (bD (eC (.bl false)))
    eJ)
   (bD (cB allM (aA (bV 1 [0,1] (aU (aA (cB bY (aA (aB 1) aC)) aC)) (g1 0) cL (aI (bR n) (aA (aE fA (aB 1) (aB 0)) (aA (aE fA (aB 2) (aB 0)) aC)))) aC))))
   eJ)
  (aJ (iF (tV (aE U8 (aB 1) (eC .non)))
   (bD (aE U8 (aB 0) (eC .non)))
   eJ)
  (aJ (iF (tV (j5 "bool" (aB 1)))
   (bD (mR (j5 "bool" (aB 0)) (aE tG (aB 0) (aB 1))))
   eJ)
  (aJ (iF (tV (j5 "int" (aB 1)))
   (bD (mR (j5 "int" (aB 0)) (mR (AH (j5 "bool" (aB 0))) (aE tG (aB 0) (aB 1)))))
   eJ)
  (bD (mR (j5 "str" (aB 0)) (aE tG (aB 0) (aB 1))))))))
noncomputable def jU:gH:=cM 11 3
  (aJ (hW 3 (IL (aA (aB 1) aC)))
  (aJ (hW 4 (eW aC))
  (aJ (dQ (aU (aA (aB 1) aC)) (j8 5)
   (sX (rH 4 iK (rH 3 VB (p7 (aE iJ (aE fA (aB 0) (aB 5)) (cB bY (aA (aB 3) aC))))))))
  (aJ (FO 6)
  (aJ (aT 7 (aB 1))
  (aJ (dQ (aU (aA (aB 1) aC)) (j8 8)
   (aJ (aT 9 (eW aC))
   (aJ (dQ (aU (aA (aB 8) aC)) (j8 10)
    (aJ (iF (tV (aE U7 (aE iJ (aE fA (aB 0) (aB 7)) (eC (.int 4))) (aB 2)))
     (wQ 9 (aE M8 (aB 9) (bV 1 [9] (cU (aE bO (aE wM (aB 6) (aE fA (aB 4) (aB 10))) (eW (aA (aE fA (aB 4) (aB 10)) aC)))) (g1 0) (tV (aE (tH true) (aB 0) (aB 1))) (aB 0))))
     eJ)
    (aT 7 (aE bO (aB 7) (eC (.int 1))))))
   (LB 6 (bT (aB 9)) (aE fA (aB 4) (aB 8))))))
  (bD (cB cP (aA (bV 1 [6] (aU (aA (aB 1) aC)) (g1 0) cL (cB cP (aA (cB iZ (aA (aE wM (aB 1) (aB 0)) aC)) aC))) aC)))))))))
noncomputable def fG:gH:=cM 7 4
  (aJ (aT 4 (aI LL.fF (aA (aI LL.fD (aA (aB 0) (aA (aB 1) aC))) (aA (eC (.int 4)) (aA (aB 3) aC)))))
  (aJ (aT 5 (aE iJ (aE fA (aB 4) (eC (.int 0))) (aE bO (aB 2) (eC (.int 1)))))
  (aJ (aT 6 (aI LL.fF (aA (aI LL.fD (aA (aB 0) (aA (aE bO (aB 1) (eC (.int 1))) aC))) (aA (aE bO (aB 5) (aE tF (aE mulM (aB 5) (aE dZ (aB 5) (eC (.int 1)))) (eC (.int 2)))) (aA (aE bO (aB 3) (eC (.int 10007))) aC)))))
  (bD (aI LL.jU (aA (aB 6) (aA (aB 5) (aA (aE fA (eW (aA (eC (.int 1)) (aA (eC (.int 1)) (aA (eC (.int 2)) (aA (eC (.int 2)) (aA (eC (.int 3)) (aA (eC (.int 1)) (aA (eC (.int 0)) (aA (eC (.int 4)) aC))))))))) (aE iJ (aE fA (aB 4) (eC (.int 1))) (eC (.int 8)))) aC))))))))
noncomputable def tupI (xs:List Int):D:=.tup (xs.map D.int)
noncomputable def aG (xs:List Int):D:=.lst (xs.map D.int)
noncomputable def aV (rows:List (List Int)):D:=.tup (rows.map tupI)
theorem fH {i j:Int}:bO (.int i) (.int j)=some (.int (i+j)):=rfl
theorem w8 {i j:Int}:dZ (.int i) (.int j)=some (.int (i - j)):=rfl
theorem eQ {i j:Int} (h:0<j):iJ (.int i) (.int j)=some (.int (i % j)):=by simp [iJ,p5,h]
theorem mB {i j:Int} (h:0<j) (h2:j<1073741824):tF (.int i) (.int j)=some (.int (i / j)):=by simp [tF,p5,h,show j.natAbs<1073741824 by omega]
theorem C6 {i j:Int}:U7 (.int i) (.int j)=some (.bl (decide (i<j))):=rfl
theorem C7 {i j:Int}:leM (.int i) (.int j)=some (.bl (decide (i<=j))):=rfl
theorem mT {i j:Int}:AG (.int i) (.int j)=some (.bl (decide (j<i))):=rfl
theorem rL {i j:Int}:geM (.int i) (.int j)=some (.bl (decide (j<=i))):=rfl
theorem gP {i j:Int}:tG (.int i) (.int j)=some (.bl (decide (i=j))):=rfl
theorem C8 {i j:Int}:U0 (.int i) (.int j)=some (.bl (!decide (i=j))):=rfl
theorem tK {i j:Bool}:tG (.bl i) (.bl j)=some (.bl (decide (i=j))):=rfl
theorem oS {i j:Str}:tG (.str i) (.str j)=some (.bl (decide (i=j))):=rfl
theorem C9 {d:D}:U8 d .non=some (.bl (wK d)):=rfl
theorem vH {a:List D} {i:Int}:fA (.lst a) (.int i)=FF a i:=rfl
theorem vI {a:List D} {i:Int}:fA (.tup a) (.int i)=FF a i:=rfl
theorem DA {a:List Int} {i:Int}:fA (.nN a) (.int i)=(FF a i).map D.int:=rfl
theorem w9 {a:List D}:bY [.lst a]=some (.int a.length):=rfl
theorem nQ {a:List D}:bY [.tup a]=some (.int a.length):=rfl
theorem xA {a:List Int}:bY [.nN a]=some (.int a.length):=rfl
theorem qI {a:List D}:cP [.lst a]=some (.tup a):=rfl
theorem qJ {a:List D}:cP [.tup a]=some (.tup a):=rfl
theorem tL {a:List D}:P1 [.lst a]=some (.lst a):=rfl
theorem tM {a:List D}:P1 [.tup a]=some (.lst a):=rfl
theorem tN {a:List D}:FN (.lst a)=some a:=rfl
theorem tO {a:List D}:FN (.tup a)=some a:=rfl
theorem oU {b:Bool}:nO (.bl b)=some b:=rfl
theorem qK {b:List D}:nO (.lst b)=some (!b.isEmpty):=rfl
theorem qL {b:List D}:nO (.tup b)=some (!b.isEmpty):=rfl
theorem xB {b:Bool}:rJ (.bl b)=some b:=rfl
theorem vJ {ds:List D} {d:D} (h:ds.length<16777216):iK ds d=some (ds++[d],.non):=if_pos h
theorem tP {ds:List D}:K9 [.tup ds]=some (ds.zipIdx.map fun p=>.tup [.int (p.2:Int),p.1]):=rfl
theorem tQ {ds:List D}:K9 [.lst ds]=some (ds.zipIdx.map fun p=>.tup [.int (p.2:Int),p.1]):=rfl
theorem xC {ds:List D}:ZH [.tup ds]=some ds.reverse:=rfl
theorem xD {ds:List D}:ZH [.lst ds]=some ds.reverse:=rfl
theorem hJ {n np:Nat} {b:SF} {ds:List D} {d:D} (hl:ds.length=np) (h:b (eA n ds)=.rt d):cM n np b ds=.ok d:=by
 unfold cM; rw [if_pos hl,h]
theorem eB {f g:SF} {ρ:bF} {o:Out} (ρ':bF) (h1:f ρ=.nx ρ') (h2:g ρ' = o):aJ f g ρ=o:=by
 unfold aJ; rw [h1]; exact h2
theorem FP {f g:SF} {ρ:bF} {d:D} (h1:f ρ=.rt d):aJ f g ρ=.rt d:=by
 unfold aJ; rw [h1]
theorem iG {f:EF} {ρ:bF} {d:D} (h:f (dR ρ)=some d):bD f ρ=.rt d:=by
 unfold bD; rw [h]
theorem fV {i:Nat} {f:EF} {ρ:bF} (d:D) {ρ':bF} (h:f (lI ρ)=some d) (hr:ρ.set i (.ro d)=ρ'):aT i f ρ=.nx ρ':=by
 unfold aT; rw [h,<- hr]
theorem QA {t:TF} {a b:SF} {ρ:bF} {o:Out} (h:t (dR ρ)=some true) (h2:a ρ=o):iF t a b ρ=o:=by
 unfold iF; rw [h]; exact h2
theorem xF {t:TF} {a b:SF} {ρ:bF} {o:Out} (h:t (dR ρ)=some false) (h2:b ρ=o):iF t a b ρ=o:=by
 unfold iF; rw [h]; exact h2
theorem VG {it:AF} {g:P4} {b:SF} {ρ:bF} {o:Out} (ds:List D) (h:it (lI ρ)=some ds) (h2:jN g b ds ρ=o):dQ it g b ρ=o:=by
 unfold dQ; rw [h]; exact h2
theorem i8 {nl:Nat} {fr:List Nat} {it:AF} {g:IN} {t:TF} {e:EF} {ρ:cD} (ds:List D) {ys:List D} (h:it ρ=some ds) (hl:ds.length<=16777216) (h2:j6 g t e (benv nl fr ρ) ds=some ys):bV nl fr it g t e ρ=some (.lst ys):=by
 unfold bV; rw [h]
 show (if ds.length<=tD then _ else _)=_
 rw [if_pos (show ds.length<=tD from hl),h2]; rfl
theorem QB {a b:List D} (h:a.length+b.length<=16777216):bO (.lst a) (.lst b)=some (.lst (a++b)):=if_pos h
theorem rM {a b:List D} (h:a.length+b.length<=16777216):bO (.tup a) (.tup b)=some (.tup (a++b)):=if_pos h
theorem QC {a b:List D} (h:a.length+b.length<=16777216):M8 (.lst a) (.lst b)=some (.lst (a++b)):=if_pos h
theorem lK {i j:Int} (h:i.natAbs<18446744073709551616):mulM (.int i) (.int j)=some (.int (i*j)):=by
 simp [mulM,p5,wJ,h]
theorem DB {i j:Int} (h:j.natAbs<18446744073709551616):mulM (.int i) (.int j)=some (.int (i*j)):=by
 simp [mulM,p5,wJ,h]
theorem xG {j:Int} (h:j.natAbs<4611686018427387904):IM [.int j]=some ((aR 0 j.toNat).map D.int):=if_pos h
theorem rN {n:Nat} (h:n<4611686018427387904):IM [.int (n:Int)]=some ((aR 0 n).map D.int):=by
 rw [xG (by omega)]; rfl
theorem fR:∀ ns:List Int,intsOf (ns.map D.int)=some ns
 | []=>rfl
 | n::ns=>by simp [intsOf,fR ns]
theorem mU {neg:Bool} {i:Int} {ns:List Int}:tH neg (.int i) (.tup (ns.map D.int))=some (.bl (if neg then !ns.contains i else ns.contains i)):=by simp [tH,fR]
theorem DC {neg:Bool} {i:Int} {ns:List Int}:tH neg (.int i) (.lst (ns.map D.int))=some (.bl (if neg then !ns.contains i else ns.contains i)):=by simp [tH,fR]
theorem sorted_ints {ns:List Int} (h:ns.length<64):iZ [.lst (ns.map D.int)]=some (.lst ((sortI ns).map D.int)):=by simp [iZ,fR,h]
theorem sum_ints {ns:List Int}:C0 [.lst (ns.map D.int)]=some (.int ns.sum):=by simp [C0,fR]
theorem A3:∀ bs:List Bool,qF (bs.map D.bl)=some bs
 | []=>rfl
 | b::bs=>by simp [qF,nO,A3 bs]
theorem DD {bs:List Bool}:allM [.lst (bs.map D.bl)]=some (.bl (bs.all id)):=by simp [allM,A3]
theorem xH {n:Nat} {i:Int} (h0:0<=i) (h1:i<n):P0 n i=some i.toNat:=by
 unfold P0; rw [if_pos h0,if_pos h1]
theorem LD {n k:Nat} (h:k<n):P0 n (k:Int)=some k:=by
 rw [xH (by omega) (by omega)]; rfl
theorem VH {α:Type} {xs:List α} {k:Nat} (h:k<xs.length):FF xs (k:Int)=xs[k]?:=by
 unfold FF; rw [LD h]; rfl
theorem DF {α:Type} {xs:List α} {i:Int} (h0:0<=i) (h1:i<xs.length):∃ x∈xs,FF xs i=some x/\xs[i.toNat]? = some x:=by
 have hl:i.toNat<xs.length:=by omega
 refine ⟨xs[i.toNat],List.getElem_mem hl,?_,by simp [hl]⟩
 unfold FF; rw [xH h0 h1]; simp [hl]
theorem vK {α β:Type} (f:α->β) (xs:List α) (i:Int):FF (xs.map f) i=(FF xs i).map f:=by
 unfold FF
 rw [List.length_map]
 cases P0 xs.length i with
 | none=>rfl
 | some j=>simp
theorem DG {α:Type} {xs:List α} {k:Nat} {x:α} (h:xs[k]? = some x):FF xs (k:Int)=some x:=by
 rw [VH (List.getElem?_eq_some_iff.mp h).1,h]
theorem aO (lo:Int) (n:Nat):(aR lo n).length=n:=by simp [aR]
theorem j9 {lo:Int} {n i:Nat} (h:i<n):(aR lo n)[i]? = some (lo+(i:Int)):=by simp [aR,h]
theorem tR (lo:Int) (n:Nat):aR lo (n+1)=aR lo n++[lo+(n:Int)]:=by simp [aR,List.range_succ]
theorem bI {lo:Int} {n:Nat} {x:Int}:x∈aR lo n↔lo<=x/\x<lo+n:=by
 unfold aR
 rw [List.mem_map]
 simp only [List.mem_range]
 constructor
 ·rintro ⟨k,hk,rfl⟩; omega
 ·rintro ⟨h1,h2⟩; exact ⟨(x - lo).toNat,by omega,by omega⟩
theorem FQ {g:P4} {b:SF} (P:Nat->bF->Prop) (ds:List D) {ρ:bF} (h0:P 0 ρ) (step:∀ (i:Nat) (d:D) (ρ:bF),ds[i]? = some d->P i ρ -> ∃ ρ1 ρ2,g d ρ=some ρ1/\b ρ1=.nx ρ2/\P (i+1) ρ2) :
  ∃ ρ',jN g b ds ρ=.nx ρ'/\P ds.length ρ':=by
 suffices H:∀ (l:List D) (k:Nat) (ρ:bF),ds.drop k=l->k<=ds.length->P k ρ -> ∃ ρ',jN g b l ρ=.nx ρ'/\P ds.length ρ' from H ds 0 ρ (by simp) (Nat.zero_le _) h0
 intro l
 induction l with
 | nil =>
  intro k ρ hl hk hp
  have:ds.length<=k:=by simpa using hl
  exact ⟨ρ,rfl,by rwa [show ds.length=k by omega]⟩
 | cons d l ih =>
  intro k ρ hl hk hp
  have hk':k<ds.length:=by
   apply Classical.byContradiction
   intro h
   rw [List.drop_eq_nil_of_le (by omega)] at hl
   cases hl
  have hd:ds[k]? = some d:=by
   have:=congrArg (fun x=>x[0]?) hl
   simpa using this
  obtain ⟨ρ1,ρ2,e1,e2,p2⟩:=step k d ρ hd hp
  have hl2:ds.drop (k+1)=l:=by
   rw [List.drop_eq_getElem_cons hk'] at hl
   exact (List.cons.inj hl).2
  obtain ⟨ρ',e3,p3⟩:=ih (k+1) ρ2 hl2 hk' p2
  exact ⟨ρ',by simp only [jN,e1,e2,e3],p3⟩
theorem QD {g:P4} {b:SF} (P:Nat->bF->Prop) (lo:Int) (n:Nat) {ρ:bF} (h0:P 0 ρ) (step:∀ (i:Nat) (ρ:bF),i<n->P i ρ -> ∃ ρ1 ρ2,g (.int (lo+(i:Int))) ρ=some ρ1/\b ρ1=.nx ρ2/\P (i+1) ρ2) :
  ∃ ρ',jN g b ((aR lo n).map D.int) ρ=.nx ρ'/\P n ρ':=by
 have:=FQ (g:=g) (b:=b) P ((aR lo n).map D.int) h0 fun i d ρ hd hp=>by
  have hi:i<n:=by
   have:=(List.getElem?_eq_some_iff.mp hd).1
   simpa [aO] using this
  rw [List.getElem?_map,j9 hi] at hd
  cases hd
  exact step i ρ hi hp
 simpa [aO] using this
theorem A4 {α:Type} {g:IN} {e:EF} {ρ:cD} (mk:α->D) (f:α->D) (l:List α) (h:∀ a∈l,(g (mk a) ρ).bind e=some (f a)):j6 g cL e ρ (l.map mk)=some (l.map f):=by
 induction l with
 | nil=>rfl
 | cons a l ih =>
  have h1:=h a (by simp)
  have h2:=ih fun x hx=>h x (by simp [hx])
  cases hg:g (mk a) ρ with
  | none=>rw [hg] at h1; cases h1
  | some ρ1 =>
   rw [hg] at h1
   have h1':e ρ1=some (f a):=h1
   simp only [List.map_cons,j6,hg,Option.bind_some,cL,if_true,h1',h2,Option.map_some]
theorem fI {α:Type} {g:IN} {e:EF} {ρ:cD} (mk:α->D) (f:α->D) (l:List α) (h:∀ a∈l,∃ ρ1,g (mk a) ρ=some ρ1/\e ρ1=some (f a)):j6 g cL e ρ (l.map mk)=some (l.map f) :=
 A4 mk f l fun a ha=>by
  obtain ⟨ρ1,h1,h2⟩:=h a ha
  rw [h1]; exact h2
theorem kZ {α:Type} {g:IN} {t:TF} {e:EF} {ρ:cD} (mk:α->D) (p:α->Bool) (f:α->D) (l:List α) (h:∀ a∈l,∃ ρ1,g (mk a) ρ=some ρ1/\t ρ1=some (p a)/\(p a=true->e ρ1=some (f a))) :
  j6 g t e ρ (l.map mk)=some ((l.filter p).map f):=by
 induction l with
 | nil=>rfl
 | cons a l ih =>
  obtain ⟨ρ1,h1,h2,h3⟩:=h a (by simp)
  have ih:=ih fun x hx=>h x (by simp [hx])
  cases hp:p a with
  | false=>simp [j6,h1,h2,hp,ih]
  | true=>simp [j6,h1,h2,hp,h3 hp,ih]
theorem QE {α β:Type} {g:IN} {e:EF} {ρ:cD} (mk:α->D) (out:β->D) (R:α->β->Prop) (l:List α) (h:∀ a∈l,∃ ρ1 b,g (mk a) ρ=some ρ1/\e ρ1=some (out b)/\R a b) :
  ∃ bs:List β,bs.length=l.length/\(∀ (i:Nat) (a:α) (b:β),l[i]? = some a->bs[i]? = some b->R a b)/\j6 g cL e ρ (l.map mk)=some (bs.map out):=by
 induction l with
 | nil=>exact ⟨[],rfl,fun i a b h=>by simp at h,rfl⟩
 | cons a l ih =>
  obtain ⟨ρ1,b,h1,h2,h3⟩:=h a (by simp)
  obtain ⟨bs,hl,hr,hc⟩:=ih fun x hx=>h x (by simp [hx])
  refine ⟨b::bs,by simp [hl],fun i x y hx hy=>?_,by simp [j6,h1,h2,hc,cL]⟩
  cases i with
  | zero=>simp at hx hy; subst hx hy; exact h3
  | succ i=>exact hr i x y (by simpa using hx) (by simpa using hy)
noncomputable def Rt (o:Out) (Q:D->Prop):Prop:=∃ d,o=.rt d/\Q d
noncomputable def Nx (o:Out) (Q:bF->Prop):Prop:=∃ ρ,o=.nx ρ/\Q ρ
theorem kA {f g:SF} {ρ:bF} {Q:D->Prop} (M:bF->Prop) (h1:Nx (f ρ) M) (h2:∀ ρ',M ρ'->Rt (g ρ') Q):Rt (aJ f g ρ) Q:=by
 obtain ⟨ρ',e,m⟩:=h1; unfold aJ; rw [e]; exact h2 ρ' m
theorem DH {f g:SF} {ρ:bF} {Q:bF->Prop} (M:bF->Prop) (h1:Nx (f ρ) M) (h2:∀ ρ',M ρ'->Nx (g ρ') Q):Nx (aJ f g ρ) Q:=by
 obtain ⟨ρ',e,m⟩:=h1; unfold aJ; rw [e]; exact h2 ρ' m
theorem bL {f g:SF} {ρ:bF} {Q:D->Prop} (ρ':bF) (h1:f ρ=.nx ρ') (h2:Rt (g ρ') Q):Rt (aJ f g ρ) Q:=by
 unfold aJ; rw [h1]; exact h2
theorem mV {f g:SF} {ρ:bF} {Q:bF->Prop} (ρ':bF) (h1:f ρ=.nx ρ') (h2:Nx (g ρ') Q):Nx (aJ f g ρ) Q:=by
 unfold aJ; rw [h1]; exact h2
theorem VI {f g:SF} {ρ:bF} {Q:D->Prop} (h1:Rt (f ρ) Q):Rt (aJ f g ρ) Q:=by
 obtain ⟨d,e,m⟩:=h1; unfold aJ; rw [e]; exact ⟨d,rfl,m⟩
theorem aBy {t:TF} {a b:SF} {ρ:bF} {Q:D->Prop} (c:Bool) (h:t (dR ρ)=some c) (h1:c=true->Rt (a ρ) Q) (h2:c=false->Rt (b ρ) Q):Rt (iF t a b ρ) Q:=by
 unfold iF; rw [h]; cases c; exact h2 rfl; exact h1 rfl
theorem FR {t:TF} {a b:SF} {ρ:bF} {Q:bF->Prop} (c:Bool) (h:t (dR ρ)=some c) (h1:c=true->Nx (a ρ) Q) (h2:c=false->Nx (b ρ) Q):Nx (iF t a b ρ) Q:=by
 unfold iF; rw [h]; cases c; exact h2 rfl; exact h1 rfl
theorem kB {f:EF} {ρ:bF} {Q:D->Prop} (d:D) (h:f (dR ρ)=some d) (q:Q d):Rt (bD f ρ) Q:=⟨d,iG h,q⟩
theorem qM {i:Nat} {f:EF} {ρ:bF} {Q:bF->Prop} (d:D) (h:f (lI ρ)=some d) (q:Q (ρ.set i (.ro d))):Nx (aT i f ρ) Q:=⟨_,fV d h rfl,q⟩
theorem xI {ρ:bF} {Q:bF->Prop} (q:Q ρ):Nx (eJ ρ) Q:=⟨ρ,rfl,q⟩
theorem DI {it:AF} {g:P4} {b:SF} {ρ:bF} {Q:bF->Prop} (ds:List D) (P:Nat->bF->Prop) (h:it (lI ρ)=some ds) (h0:P 0 ρ) (step:∀ (i:Nat) (d:D) (ρ:bF),ds[i]? = some d->P i ρ -> ∃ ρ1,g d ρ=some ρ1/\Nx (b ρ1) (P (i+1)))
  (fin:∀ ρ',P ds.length ρ'->Q ρ'):Nx (dQ it g b ρ) Q:=by
 obtain ⟨ρ',e,p⟩:=FQ (g:=g) (b:=b) P ds h0 fun i d ρ hd hp=>by
  obtain ⟨ρ1,e1,ρ2,e2,p2⟩:=step i d ρ hd hp
  exact ⟨ρ1,ρ2,e1,e2,p2⟩
 exact ⟨ρ',VG ds h e,fin ρ' p⟩
theorem jM {t:AF} {g:P4} {b:SF} {ρ:bF} {Q:bF->Prop} (n:Nat) (P:Nat->bF->Prop) (h:t (lI ρ)=some [.int (n:Int)]) (hn:n<4611686018427387904) (h0:P 0 ρ) (step:∀ (i:Nat) (ρ:bF),i<n->P i ρ -> ∃ ρ1,g (.int (i:Int)) ρ=some ρ1/\Nx (b ρ1) (P (i+1)))
  (fin:∀ ρ',P n ρ'->Q ρ'):Nx (dQ (aU t) g b ρ) Q:=by
 refine DI ((aR 0 n).map D.int) P (by unfold aU; rw [h,Option.bind_some,rN hn]) h0 (fun i d ρ hd hp=>?_) (fun ρ' p=>fin ρ' (by simpa [aO] using p))
 have hi:i<n:=by
  have:=(List.getElem?_eq_some_iff.mp hd).1
  simpa [aO] using this
 rw [List.getElem?_map,j9 hi] at hd
 have hd:D.int (0+(i:Int))=d:=by simpa using hd
 subst hd
 obtain ⟨ρ1,e,q⟩:=step i ρ hi hp
 exact ⟨ρ1,by rw [Int.zero_add]; exact e,q⟩
theorem lL {n np:Nat} {b:SF} {ds:List D} {Q:D->Prop} (hl:ds.length=np) (h:Rt (b (eA n ds)) Q):∃ d,cM n np b ds=.ok d/\Q d:=by
 obtain ⟨d,e,q⟩:=h; exact ⟨d,hJ hl e,q⟩
theorem A5:∀ (l:List Int) (j:Nat),(l.map D.int).eraseIdx j=(l.eraseIdx j).map D.int
 | [],j=>by simp
 | a::l,0=>by simp
 | a::l,j+1=>by simp [A5 l j]
theorem bP {g:D->D->Option D} {a b:EF} {ρ:cD} {z:Option D} {x y:D} (ha:a ρ=some x) (hb:b ρ=some y) (h:g x y=z):aE g a b ρ=z:=by
 unfold aE; rw [ha,hb]; exact h
theorem eX {g:List D->Option D} {a:EF} {ρ:cD} {z:Option D} {x:D} (ha:a ρ=some x) (h:g [x]=z):cB g (aA a aC) ρ=z:=by
 unfold cB aA aC; rw [ha]; exact h
theorem VJ {g:List D->Option D} {a b:EF} {ρ:cD} {z:Option D} {x y:D} (ha:a ρ=some x) (hb:b ρ=some y) (h:g [x,y]=z):cB g (aA a (aA b aC)) ρ=z:=by
 unfold cB aA aC; rw [ha,hb]; exact h
theorem h8 {f:gH} {a:EF} {ρ:cD} {d x:D} (ha:a ρ=some x) (h:f [x]=.ok d):aI f (aA a aC) ρ=some d:=by
 unfold aI aA aC; rw [ha]; show FL (f [x])=_; rw [h]; rfl
theorem dD {f:gH} {a b:EF} {ρ:cD} {d x y:D} (ha:a ρ=some x) (hb:b ρ=some y) (h:f [x,y]=.ok d):aI f (aA a (aA b aC)) ρ=some d:=by
 unfold aI aA aC; rw [ha,hb]; show FL (f [x,y])=_; rw [h]; rfl
theorem lM {f:gH} {a b c:EF} {ρ:cD} {d x y z:D} (ha:a ρ=some x) (hb:b ρ=some y) (hc:c ρ=some z) (h:f [x,y,z]=.ok d):aI f (aA a (aA b (aA c aC))) ρ=some d:=by
 unfold aI aA aC; rw [ha,hb,hc]; show FL (f [x,y,z])=_; rw [h]; rfl
theorem tS {f:gH} {a b c e:EF} {ρ:cD} {d x y z w:D} (ha:a ρ=some x) (hb:b ρ=some y) (hc:c ρ=some z) (he:e ρ=some w) (h:f [x,y,z,w]=.ok d):aI f (aA a (aA b (aA c (aA e aC)))) ρ=some d:=by
 unfold aI aA aC; rw [ha,hb,hc,he]; show FL (f [x,y,z,w])=_; rw [h]; rfl
theorem args1 {a:EF} {ρ:cD} {x:D} (ha:a ρ=some x):aA a aC ρ=some [x]:=by unfold aA aC; rw [ha]; rfl
theorem args2 {a b:EF} {ρ:cD} {x y:D} (ha:a ρ=some x) (hb:b ρ=some y):aA a (aA b aC) ρ=some [x,y]:=by unfold aA aC; rw [ha,hb]; rfl
theorem QF {a:EF} {ρ:cD} {n:Nat} (ha:a ρ=some (.int (n:Int))) (hn:n<4611686018427387904):aU (aA a aC) ρ=some ((aR 0 n).map D.int):=by
 unfold aU; rw [args1 ha,Option.bind_some,rN hn]
theorem aBz {a b:EF} {ρ:cD} {i j:Int} (ha:a ρ=some (.int i)) (hb:b ρ=some (.int j)) (hi:i.natAbs<4611686018427387904) (hj:j.natAbs<4611686018427387904):aU (aA a (aA b aC)) ρ=some ((aR i (j - i).toNat).map D.int):=by
 unfold aU; rw [args2 ha hb,Option.bind_some]
 exact if_pos ⟨hi,hj⟩
theorem DJ {f:EF} {ρ:cD} {d:D} {b:Bool} (h:f ρ=some d) (ht:nO d=some b):tV f ρ=some b:=by unfold tV; rw [h]; exact ht
theorem tnE {t:TF} {ρ:cD} {b c:Bool} (h:t ρ=some b) (hc:(!b)=c):jL t ρ=some c:=by unfold jL; rw [h,<- hc]; rfl
theorem aCA {t u:TF} {ρ:cD} {b c:Bool} (h:t ρ=some b) (h2:b=true->u ρ=some c) (h3:b=false->c=false):uW t u ρ=some c:=by
 unfold uW; rw [h]; cases b
 ·rw [h3 rfl]; rfl
 ·exact h2 rfl
theorem VL {l:List Int} {i:Int} {y:Int} (h0:0<=i) (h1:i<l.length) (h2:l.length<=16777216) (hy:l[i.toNat]? = some y):VB (l.map D.int) (.int i)=some ((l.eraseIdx i.toNat).map D.int,.int y):=by
 show (if i.natAbs<9223372036854775808 then _ else _)=_
 rw [if_pos (by omega),List.length_map,xH h0 h1,Option.bind_some,List.getElem?_map,hy,A5]
 rfl
theorem oV {ws:List Int} {j:Nat} {x:Int} (h:ws[j]? = some x):FF (ws.map D.int) (j:Int)=some (.int x):=by
 rw [vK,DG h]; rfl
theorem QG {α:Type} {l:List α} {i j:Nat} {x:α} (h:l[i]? = some x) (hij:i<j):(l.take j)[i]? = some x:=by rw [List.getElem?_take_of_lt hij]; exact h
theorem oW:∀ ns:List Int,wH (ns.map D.int)=true
 | []=>rfl
 | n::ns=>by rw [List.map_cons,wH,oW ns]; rfl
theorem qN {k q:Sum Int Str} {ks:List (Sum Int Str)} {d:D} {ds:List D}:kX (q::ks) (d::ds) k=if q=k then some d else kX ks ds k:=by
 by_cases e:q=k
 ·simp [kX,e]
 ·simp [kX,e]
theorem tT:∀ {word:List Int} {us:List (List Int)} {i:Nat} {x:Int} {v:List Int},word.Nodup->word[i]? = some x->us[i]? = some v->kX (word.map Sum.inl) (us.map aG) (Sum.inl x)=some (aG v)
 | [],us,i,x,v,_,h,_=>by simp at h
 | w::ws,[],i,x,v,_,_,h=>by simp at h
 | w::ws,u::us,0,x,v,_,h1,h2=>by
  simp at h1 h2
  subst h1 h2
  rw [List.map_cons,List.map_cons,qN,if_pos rfl]
 | w::ws,u::us,i+1,x,v,hn,h1,h2=>by
  obtain ⟨n1,n2⟩:=List.nodup_cons.mp hn
  have h1':ws[i]? = some x:=by simpa using h1
  have ne:(Sum.inl w:Sum Int Str)≠Sum.inl x:=fun e=>n1 (by cases e; exact List.mem_of_getElem? h1')
  rw [List.map_cons,List.map_cons,qN,if_neg ne]
  exact tT n2 h1' (by simpa using h2)
theorem A6:∀ {word:List Int} {us:List (List Int)} {x:Int},x∉word->kX (word.map Sum.inl) (us.map aG) (Sum.inl x)=none
 | [],us,x,_=>by simp [kX]
 | w::ws,[],x,_=>by simp [kX]
 | w::ws,u::us,x,h=>by
  have ne:(Sum.inl w:Sum Int Str)≠Sum.inl x:=fun e=>h (by cases e; exact List.mem_cons_self)
  rw [List.map_cons,List.map_cons,qN,if_neg ne]
  exact A6 fun z=>h (List.mem_cons_of_mem _ z)
theorem insI_perm (a:Int):∀ l:List Int,(insI a l).Perm (a::l)
 | []=>.refl _
 | b::l=>by
  unfold insI
  split
  ·exact .refl _
  ·exact ((insI_perm a l).cons b).trans (.swap a b l)
theorem sortI_perm:∀ l:List Int,(sortI l).Perm l
 | []=>.refl _
 | a::l=>(insI_perm a (sortI l)).trans ((sortI_perm l).cons a)
theorem uJ (a:Int):∀ l:List Int,l.Pairwise (· <= ·)->(insI a l).Pairwise (· <= ·)
 | [],_=>by simp [insI]
 | b::l,h=>by
  unfold insI
  split
  ·rename_i hab
   refine List.pairwise_cons.mpr ⟨fun c hc=>?_,h⟩
   rcases List.mem_cons.mp hc with e | e
   ·subst e; exact hab
   ·exact Int.le_trans hab ((List.pairwise_cons.mp h).1 c e)
  ·rename_i hab
   refine List.pairwise_cons.mpr ⟨fun c hc=>?_,uJ a l (List.pairwise_cons.mp h).2⟩
   rcases List.mem_cons.mp ((insI_perm a l).mem_iff.mp hc) with e | e
   ·subst e; omega
   ·exact (List.pairwise_cons.mp h).1 c e
theorem rO:∀ l:List Int,(sortI l).Pairwise (· <= ·)
 | []=>List.Pairwise.nil
 | a::l=>uJ a _ (rO l)
local macro_rules | `(tactic| walk_at "ev") => `(tactic| simp only [eA, aJ, iF, bD, aT, LA, hW, P3, wQ, FO, sX, dQ, eJ, aB, eC, aE, tV, jL, uW, FE, mR, eOr, AH, U5, CZ, mS, aC, aA, cB, aI, FL, j5, cU, aU, rK, ZG, M9, g1, g2, j8, ZI, AZ, cL, benv, VA, U9, oE, asInt, bT, rH, qH, dR, lI, Sv.all, Sv.rd, List.map_cons, List.map_nil, List.getElem?_cons_zero, List.getElem?_cons_succ, List.getElem?_nil, Option.join_some, Option.join_none, Option.bind_some, Option.bind_none, Option.map_some, Option.map_none, List.set_cons_zero, List.set_cons_succ, List.set_nil, List.length_cons, List.length_nil, List.length_map, List.cons_append, List.nil_append, List.replicate_succ, List.replicate_zero, Nat.reduceSub, Nat.reduceAdd, Nat.reduceEqDiff, oU, qK, qL, xB, U6, fH, w8, C6, C7, mT, rL, gP, C8, tK, oS, C9, wK, vH, vI, DA, w9, nQ, xA, qI, qJ, tL, tM, tN, tO, tP, tQ, xC, xD, if_true, if_false, ite_true, ite_false, reduceIte, decide_true, decide_false, decide_eq_true_eq, Bool.false_eq_true, Bool.not_true, Bool.not_false, mU, DC])
theorem vL (ns:List Int) (k:Int):∃ c,fD [.nN ns,.int k]=.ok (.int c):=by
 unfold fD
 by_cases h:(ns.length:Int)=0
 ·exact ⟨0,hJ rfl (FP (QA (by walk_at "ev"; rw [decide_eq_true h]) rfl))⟩
 ·obtain ⟨x,_,e,_⟩:=DF (xs:=ns) (i:=k % (ns.length:Int)) (Int.emod_nonneg _ (by omega)) (Int.emod_lt_of_pos _ (by omega))
  refine ⟨x,hJ rfl (eB _ (xF (by walk_at "ev"; rw [decide_eq_false h]) rfl) (iG ?_))⟩
  walk_at "ev"
  rw [eQ (by omega)]
  walk_at "ev"
  rw [e]; rfl
noncomputable def QH (c k s:Int):Int:=(c+11*k*k+17*k+s)*48271 % 2147483647
noncomputable def aCB (c k s:Int):Int:=(QH c k s*(QH c k s / 4096+5)+29*k+s) % 2147483629
theorem FS (c k s:Int) (h0:0<=k) (h1:k<1000000):∃ r,0<=r/\fE [.int c,.int k,.int s]=.ok (.int r):=by
 unfold fE
 have ha:0<=QH c k s:=Int.emod_nonneg ((c+11*k*k+17*k+s)*48271) (b:=2147483647) (by decide)
 have hb:QH c k s<2147483647:=Int.emod_lt_of_pos ((c+11*k*k+17*k+s)*48271) (b:=2147483647) (by decide)
 refine ⟨aCB c k s*39373 % 1000000007,Int.emod_nonneg _ (b:=1000000007) (by decide),hJ rfl (eB _ (fV (.int (QH c k s)) ?_ rfl) (eB _ (fV (.int (aCB c k s)) ?_ rfl) (iG ?_)))⟩
 ·walk_at "ev"
  rw [lK (by decide)]
  walk_at "ev"
  rw [DB (by omega),lK (i:=17) (by decide)]
  walk_at "ev"
  rw [DB (j:=48271) (by decide)]
  walk_at "ev"
  rw [eQ (by decide)]
  rfl
 ·walk_at "ev"
  rw [mB (by decide) (by decide)]
  walk_at "ev"
  rw [lK (by omega),lK (i:=29) (by decide)]
  walk_at "ev"
  rw [eQ (by decide)]
  rfl
 ·walk_at "ev"
  rw [DB (j:=39373) (by decide)]
  walk_at "ev"
  rw [eQ (by decide)]
theorem oX (xs:List Int) (x:Int):D.lst (xs.map D.int++[.int x])=aG (xs++[x]):=by simp [aG]
theorem xJ (c many s:Int) (h0:0<=many) (h1:many<1000000):∃ xs:List Int,xs.length=many.toNat/\(∀ x∈xs,0<=x)/\fF [.int c,.int many,.int s]=.ok (aG xs):=by
 unfold fF
 have key:∀ left:Int,∃ ρ',jN (j8 5) (iF (tV (aE AG (aB 4) (eC (.int 0))))
    (aJ (sX (rH 3 iK (bT (aE iJ (aB 4) (eC (.int 64))))))
    (aT 4 (aE tF (aB 4) (eC (.int 64)))))
    (sX (rH 3 iK (bT (aI LL.fE (aA (aB 0) (aA (aB 5) (aA (aB 2) aC))))))))
    ((aR 0 many.toNat).map D.int) [Sv.ro (.int c),Sv.ro (.int many),Sv.ro (.int s),Sv.ow (.lst []),Sv.ro (.int left),Sv.no]=.nx ρ' /\
    ∃ (xs:List Int) (l:Int) (v:Sv),xs.length=many.toNat/\(∀ x∈xs,0<=x)/\ρ' = [Sv.ro (.int c),Sv.ro (.int many),Sv.ro (.int s),Sv.ow (aG xs),Sv.ro (.int l),v]:=by
  intro left
  refine QD (fun i ρ'=>∃ (xs:List Int) (l:Int) (v:Sv),xs.length=i/\(∀ x∈xs,0<=x)/\ρ' = [Sv.ro (.int c),Sv.ro (.int many),Sv.ro (.int s),Sv.ow (aG xs),Sv.ro (.int l),v]) 0 _ ⟨[],left,_,rfl,by simp,rfl⟩ ?_
  rintro i _ hi ⟨xs,l,v,hx,hn,rfl⟩
  have hlen:(xs.map D.int).length<16777216:=by rw [List.length_map]; omega
  by_cases hl:0<l
  ·refine ⟨_,_,rfl,QA (by walk_at "ev"; rw [decide_eq_true hl]) (eB [Sv.ro (.int c),Sv.ro (.int many),Sv.ro (.int s),Sv.ow (aG (xs++[l % 64])),Sv.ro (.int l),Sv.ro (.int (0+(i:Int)))] ?_ (fV (.int (l / 64)) ?_ rfl)),xs++[l % 64],l / 64,_,by simp [hx],?_,rfl⟩
   ·walk_at "ev"
    rw [eQ (by decide)]
    walk_at "ev"
    simp only [aG,qH]
    walk_at "ev"
    rw [vJ hlen]
    walk_at "ev"
    rw [oX]
    rfl
   ·walk_at "ev"
    rw [mB (by decide) (by decide)]
   ·intro x hx
    rcases List.mem_append.mp hx with h | h
    ·exact hn x h
    ·rw [List.mem_singleton.mp h]; exact Int.emod_nonneg _ (by decide)
  ·obtain ⟨r,hr,e⟩:=FS c (0+(i:Int)) s (by omega) (by omega)
   refine ⟨_,[Sv.ro (.int c),Sv.ro (.int many),Sv.ro (.int s),Sv.ow (aG (xs++[r])),Sv.ro (.int l),Sv.ro (.int (0+(i:Int)))],rfl,xF (by walk_at "ev"; rw [decide_eq_false hl]) ?_,xs++[r],l,_,by simp [hx],?_,rfl⟩
   ·walk_at "ev"
    rw [e]
    simp only [aG,qH]
    walk_at "ev"
    rw [vJ hlen]
    walk_at "ev"
    rw [oX]
    rfl
   ·intro x hx
    rcases List.mem_append.mp hx with h | h
    ·exact hn x h
    ·rw [List.mem_singleton.mp h]; exact hr
 have hp:uX (.int 10) (.int 18)=some (.int 1000000000000000000):=rfl
 have fin:∀ left:Int,(0=0) -> ∃ xs:List Int,xs.length=many.toNat/\(∀ x∈xs,0<=x)/\aJ (dQ (aU (aA (aB 1) aC)) (j8 5) (iF (tV (aE AG (aB 4) (eC (.int 0))))
    (aJ (sX (rH 3 iK (bT (aE iJ (aB 4) (eC (.int 64))))))
    (aT 4 (aE tF (aB 4) (eC (.int 64)))))
    (sX (rH 3 iK (bT (aI LL.fE (aA (aB 0) (aA (aB 5) (aA (aB 2) aC))))))))) (bD (aB 3)) [Sv.ro (.int c),Sv.ro (.int many),Sv.ro (.int s),Sv.ow (.lst []),Sv.ro (.int left),Sv.no]=.rt (aG xs):=by
  intro left _
  obtain ⟨ρ',e,xs,l,v,h1',h2',rfl⟩:=key left
  refine ⟨xs,h1',h2',eB _ (VG _ ?_ e) (iG rfl)⟩
  walk_at "ev"
  exact xG (by omega)
 by_cases hc:1000000000000000000<=c
 ·obtain ⟨xs,a,b,e⟩:=fin c rfl
  refine ⟨xs,a,b,hJ rfl (eB _ rfl (eB _ rfl (eB _ (QA ?_ rfl) e)))⟩
  walk_at "ev"
  rw [hp]
  walk_at "ev"
  rw [decide_eq_true hc]
 ·obtain ⟨xs,a,b,e⟩:=fin 0 rfl
  refine ⟨xs,a,b,hJ rfl (eB _ rfl (eB _ rfl (eB _ (xF ?_ rfl) e)))⟩
  walk_at "ev"
  rw [hp]
  walk_at "ev"
  rw [decide_eq_false hc]
theorem QI (dr:List Int) (n:Nat) (th:Int) (hn:n<=9) (hl:n+Ord.tri n<=dr.length) :
  ∃ d,jU [aG dr,.int n,.int th]=.ok d /\ ∃ rows:List (List Int),rows.length=n/\Ord.Rows rows/\d=aV rows:=by
 unfold jU
 refine lL rfl ?_
 rw [show eA 11 [aG dr,.int n,.int th]=[Sv.ro (aG dr),Sv.ro (.int n),Sv.ro (.int th),Sv.no,Sv.no,Sv.no,Sv.no,Sv.no,Sv.no,Sv.no,Sv.no] from rfl]
 refine bL [Sv.ro (aG dr),Sv.ro (.int n),Sv.ro (.int th),Sv.ow (.lst ((aR 0 n).map D.int)),Sv.no,Sv.no,Sv.no,Sv.no,Sv.no,Sv.no,Sv.no] ?_ ?_
 ·walk_at "ev"
  simp only [IL]
  walk_at "ev"
  rw [if_pos (by omega)]
  rfl
 refine bL [Sv.ro (aG dr),Sv.ro (.int n),Sv.ro (.int th),Sv.ow (.lst ((aR 0 n).map D.int)),Sv.ow (.lst []),Sv.no,Sv.no,Sv.no,Sv.no,Sv.no,Sv.no] rfl ?_
 refine kA (fun ρ=>∃ (word:List Int) (kv v3:Sv),word.Perm (aR 0 n)/\ρ=[Sv.ro (aG dr),Sv.ro (.int n),Sv.ro (.int th),v3,Sv.ow (aG word),kv,Sv.no,Sv.no,Sv.no,Sv.no,Sv.no]) ?_ ?_
 ·refine jM n (fun i ρ=>∃ (rest word:List Int) (kv:Sv),word.length=i/\(word++rest).Perm (aR 0 n)/\ρ=[Sv.ro (aG dr),Sv.ro (.int n),Sv.ro (.int th),Sv.ow (aG rest),Sv.ow (aG word),kv,Sv.no,Sv.no,Sv.no,Sv.no,Sv.no])
   rfl (by omega) ⟨aR 0 n,[],Sv.no,rfl,.refl _,rfl⟩ ?_ ?_
  ·rintro i _ hi ⟨rest,word,kv,hw,hp,rfl⟩
   have hlr:word.length+rest.length=n:=by
    have:=hp.length_eq
    rw [List.length_append,aO] at this
    exact this
   obtain ⟨x,hx⟩:∃ x,dr[i]? = some x:=⟨_,List.getElem?_eq_getElem (by omega)⟩
   have hr0:(0:Int)<rest.length:=by omega
   have h0:=Int.emod_nonneg x (show (rest.length:Int)≠0 by omega)
   have h1:=Int.emod_lt_of_pos x hr0
   obtain ⟨y,hy⟩:∃ y,rest[(x % (rest.length:Int)).toNat]? = some y:=⟨_,List.getElem?_eq_getElem (by omega)⟩
   refine ⟨_,rfl,[Sv.ro (aG dr),Sv.ro (.int n),Sv.ro (.int th),Sv.ow (aG (rest.eraseIdx (x % (rest.length:Int)).toNat)),Sv.ow (aG (word++[y])),Sv.ro (.int i),Sv.no,Sv.no,Sv.no,Sv.no,Sv.no],?_,rest.eraseIdx (x % (rest.length:Int)).toNat,word++[y],Sv.ro (.int i),by simp [hw],?_,rfl⟩
   ·have e1:=VL h0 h1 (by omega) hy
    simp only [aG]
    walk_at "ev"
    simp only [p7]
    walk_at "ev"
    rw [oV hx]
    walk_at "ev"
    rw [eQ hr0]
    walk_at "ev"
    simp only [D.IG,ite_true,Option.bind_some]
    walk_at "ev"
    rw [e1]
    walk_at "ev"
    rw [vJ (by rw [List.length_map]; omega)]
    walk_at "ev"
    rw [List.map_append]
    rfl
   ·rw [List.append_assoc]
    exact ((Ord.wZ rest _ y hy).append_left word).trans hp
  ·rintro _ ⟨rest,word,kv,hw,hp,rfl⟩
   have hlr:word.length+rest.length=n:=by
    have:=hp.length_eq
    rw [List.length_append,aO] at this
    exact this
   have e:rest=[]:=List.length_eq_zero_iff.mp (by omega)
   subst e
   rw [List.append_nil] at hp
   exact ⟨word,kv,_,hp,rfl⟩
 rintro _ ⟨word,kv,v3,hp,rfl⟩
 have hpw:word.Perm ((List.range n).map fun k:Nat=>(k:Int)):=by
  have e:aR 0 n=(List.range n).map fun k:Nat=>(k:Int):=List.map_congr_left fun k _=>by show 0+(k:Int)=k; omega
  rw [<- e]
  exact hp
 have hlw:word.length=n:=by rw [hpw.length_eq,List.length_map,List.length_range]
 have ndw:word.Nodup:=hpw.nodup_iff.mpr (List.Pairwise.map _ (fun a b hab e=>hab (by omega)) List.nodup_range)
 have ZK:∀ {us:List (List Int)} (t:Nat) (u:List Int),Ord.Under word us t u->u.length<=n:=fun {us} t u h=>by
  rw [<- hlw]
  exact Ord.gQ u word h.1 fun a ha=>by obtain ⟨s,_,_,h2,_⟩:=h.2 a ha; exact List.mem_of_getElem? h2
 refine bL [Sv.ro (aG dr),Sv.ro (.int n),Sv.ro (.int th),v3,Sv.ow (aG word),kv,Sv.ow (.kR [] []),Sv.no,Sv.no,Sv.no,Sv.no] rfl ?_
 refine bL [Sv.ro (aG dr),Sv.ro (.int n),Sv.ro (.int th),v3,Sv.ow (aG word),kv,Sv.ow (.kR [] []),Sv.ro (.int n),Sv.no,Sv.no,Sv.no] rfl ?_
 refine kA (fun ρ=>∃ (us:List (List Int)) (v7 v8 v9 v10:Sv),us.length=n/\Ord.Good word us/\ρ=[Sv.ro (aG dr),Sv.ro (.int n),Sv.ro (.int th),v3,Sv.ow (aG word),kv,Sv.ow (.kR (word.map Sum.inl) (us.map aG)),v7,v8,v9,v10]) ?_ ?_
 ·refine jM n (fun j ρ=>∃ (us:List (List Int)) (v8 v9 v10:Sv),us.length=j/\Ord.Good word us/\ρ=[Sv.ro (aG dr),Sv.ro (.int n),Sv.ro (.int th),v3,Sv.ow (aG word),kv,Sv.ow (.kR ((word.take j).map Sum.inl) (us.map aG)),Sv.ro (.int ((n+Ord.tri j:Nat):Int)),v8,v9,v10])
   rfl (by omega) ⟨[],Sv.no,Sv.no,Sv.no,rfl,(fun t u e=>by simp at e),rfl⟩ ?_ ?_
  ·rintro j _ hj ⟨us,v8,v9,v10,hul,hg,rfl⟩
   refine ⟨_,rfl,?_⟩
   refine mV [Sv.ro (aG dr),Sv.ro (.int n),Sv.ro (.int th),v3,Sv.ow (aG word),kv,Sv.ow (.kR ((word.take j).map Sum.inl) (us.map aG)),Sv.ro (.int ((n+Ord.tri j:Nat):Int)),Sv.ro (.int j),Sv.ro (.lst []),v10] rfl ?_
   refine DH (fun ρ=>∃ (u:List Int) (v10:Sv),Ord.Under word us j u/\ρ=[Sv.ro (aG dr),Sv.ro (.int n),Sv.ro (.int th),v3,Sv.ow (aG word),kv,Sv.ow (.kR ((word.take j).map Sum.inl) (us.map aG)),Sv.ro (.int ((n+Ord.tri (j+1):Nat):Int)),Sv.ro (.int j),Sv.ro (aG u),v10]) ?_ ?_
   ·refine jM j (fun i ρ=>∃ (u:List Int) (v10:Sv),Ord.Under word us i u/\ρ=[Sv.ro (aG dr),Sv.ro (.int n),Sv.ro (.int th),v3,Sv.ow (aG word),kv,Sv.ow (.kR ((word.take j).map Sum.inl) (us.map aG)),Sv.ro (.int ((n+Ord.tri j+i:Nat):Int)),Sv.ro (.int j),Sv.ro (aG u),v10])
     rfl (by omega) ⟨[],_,⟨List.nodup_nil,fun a ha=>(nomatch ha)⟩,rfl⟩ ?_ ?_
    ·rintro i _ hi ⟨u,v10,hU,rfl⟩
     have tl:=Ord.ZJ hj hi
     obtain ⟨y,hy⟩:∃ y,dr[n+Ord.tri j+i]? = some y:=⟨_,List.getElem?_eq_getElem (by omega)⟩
     obtain ⟨x,hx⟩:∃ x,word[i]? = some x:=⟨_,List.getElem?_eq_getElem (by omega)⟩
     obtain ⟨v,hv⟩:∃ v,us[i]? = some v:=⟨_,List.getElem?_eq_getElem (by omega)⟩
     have lv:=ZK _ _ (hg i v hv)
     have lu:=ZK _ _ hU
     refine ⟨_,rfl,?_⟩
     refine DH (fun ρ=>∃ u':List Int,Ord.Under word us (i+1) u'/\ρ=[Sv.ro (aG dr),Sv.ro (.int n),Sv.ro (.int th),v3,Sv.ow (aG word),kv,Sv.ow (.kR ((word.take j).map Sum.inl) (us.map aG)),Sv.ro (.int ((n+Ord.tri j+i:Nat):Int)),Sv.ro (.int j),Sv.ro (aG u'),Sv.ro (.int i)]) ?_ ?_
     ·refine FR (decide (y % 4<th)) ?_ (fun _=>?_) (fun _=>xI ⟨u,hU.mono (by omega),rfl⟩)
      ·simp only [aG]
       walk_at "ev"
       rw [oV hy]
       walk_at "ev"
       rw [eQ (by decide)]
       walk_at "ev"
      ·refine ⟨_,?_,_,hU.step ndw hg hx hv,rfl⟩
       have hf:=List.length_filter_le (fun a=>!u.contains a) (v++[x])
       have e1:j6 (g1 0) (tV (aE (tH true) (aB 0) (aB 1))) (aB 0) [none,some (.lst (u.map D.int))] ((v++[x]).map D.int)=some (((v++[x]).filter fun a=>!u.contains a).map D.int) :=
        kZ D.int _ D.int (v++[x]) fun a _=>⟨_,rfl,by walk_at "ev",fun _=>rfl⟩
       have e2:aE bO (aE wM (aB 6) (aE fA (aB 4) (aB 10))) (eW (aA (aE fA (aB 4) (aB 10)) aC)) [some (aG dr),some (.int n),some (.int th),v3.all,some (aG word),kv.all,some (.kR ((word.take j).map Sum.inl) (us.map aG)),some (.int ((n+Ord.tri j+i:Nat):Int)),some (.int j),some (aG u),some (.int i)]=some (.lst ((v++[x]).map D.int)):=by
        simp only [aG]
        walk_at "ev"
        rw [oV hx]
        walk_at "ev"
        simp only [wM,wL,Option.bind_some]
        have:=tT (List.Nodup.sublist (List.take_sublist j word) ndw) (QG hx hi) hv
        simp only [aG] at this
        rw [this]
        simp only [eW]
        walk_at "ev"
        rw [oV hx]
        walk_at "ev"
        rw [if_pos (by decide),Option.bind_some,QB (by simp; omega)]
        simp
       have e3:bV 1 [9] (cU (aE bO (aE wM (aB 6) (aE fA (aB 4) (aB 10))) (eW (aA (aE fA (aB 4) (aB 10)) aC)))) (g1 0) (tV (aE (tH true) (aB 0) (aB 1))) (aB 0) [some (aG dr),some (.int n),some (.int th),v3.all,some (aG word),kv.all,some (.kR ((word.take j).map Sum.inl) (us.map aG)),some (.int ((n+Ord.tri j+i:Nat):Int)),some (.int j),some (aG u),some (.int i)]=some (.lst (((v++[x]).filter fun a=>!u.contains a).map D.int)) :=
        i8 ((v++[x]).map D.int) (by unfold cU; rw [e2]; rfl) (by simp; omega) e1
       unfold wQ
       have e4:aE M8 (aB 9) (bV 1 [9] (cU (aE bO (aE wM (aB 6) (aE fA (aB 4) (aB 10))) (eW (aA (aE fA (aB 4) (aB 10)) aC)))) (g1 0) (tV (aE (tH true) (aB 0) (aB 1))) (aB 0)) [some (aG dr),some (.int n),some (.int th),v3.all,some (aG word),kv.all,some (.kR ((word.take j).map Sum.inl) (us.map aG)),some (.int ((n+Ord.tri j+i:Nat):Int)),some (.int j),some (aG u),some (.int i)]=some (aG (u++(v++[x]).filter fun a=>!u.contains a)):=by
        refine bP (x:=aG u) rfl e3 ?_
        show M8 (.lst (u.map D.int)) _=_
        rw [QC (by simp only [List.length_map,List.length_append,List.length_cons,List.length_nil] at hf ⊢; omega),<- List.map_append]
        rfl
       rw [show dR _=[some (aG dr),some (.int n),some (.int th),v3.all,some (aG word),kv.all,some (.kR ((word.take j).map Sum.inl) (us.map aG)),some (.int ((n+Ord.tri j+i:Nat):Int)),some (.int j),some (aG u),some (.int i)] from rfl,e4]
       show (if wN (aG _)=true then _ else _)=_
       rw [if_pos (show wN (aG _)=true from oW _)]
       rfl
     rintro _ ⟨u',hU',rfl⟩
     exact ⟨_,rfl,u',_,hU',rfl⟩
    ·rintro _ ⟨u,v10,hU,rfl⟩
     exact ⟨u,v10,hU,by rw [Nat.add_assoc]; rfl⟩
   rintro _ ⟨u,v10,hU,rfl⟩
   obtain ⟨x,hx⟩:∃ x,word[j]? = some x:=⟨_,List.getElem?_eq_getElem (by omega)⟩
   refine ⟨[Sv.ro (aG dr),Sv.ro (.int n),Sv.ro (.int th),v3,Sv.ow (aG word),kv,Sv.ow (.kR ((word.take (j+1)).map Sum.inl) ((us++[u]).map aG)),Sv.ro (.int ((n+Ord.tri (j+1):Nat):Int)),Sv.ro (.int j),Sv.ro (aG u),v10],?_,us++[u],Sv.ro (.int j),Sv.ro (aG u),v10,by simp [hul],hg.snoc (by rw [hul]; exact hU),rfl⟩
   have hno:kX ((word.take j).map Sum.inl) (us.map aG) (Sum.inl x)=none:=A6 fun hm=>by
    obtain ⟨t,ht⟩:=List.mem_iff_getElem?.mp hm
    have htl:t<j:=by
     have:=(List.getElem?_eq_some_iff.mp ht).1
     rw [List.length_take] at this
     omega
    rw [List.getElem?_take_of_lt htl] at ht
    have:=Ord.w4 ndw ht hx
    omega
   unfold LB
   walk_at "ev"
   simp only [wR,Option.bind_some]
   have e5:fA (aG word) (.int (j:Int))=some (.int x):=oV hx
   rw [e5]
   simp only [Option.bind_some,wL,hno,Option.isNone_none,true_and]
   rw [if_pos (by rw [List.length_map]; show us.length<16777216; omega),List.take_succ,hx,List.map_append,List.map_append]
   rfl
  ·rintro _ ⟨us,v8,v9,v10,hul,hg,rfl⟩
   refine ⟨us,Sv.ro (.int ((n+Ord.tri n:Nat):Int)),v8,v9,v10,hul,hg,?_⟩
   rw [List.take_of_length_le (by omega)]
 rintro _ ⟨us,v7,v8,v9,v10,hul,hg,rfl⟩
 have ec:∃ rows:List (List Int),rows.length=(List.range n).length/\(∀ (i:Nat) (b:Nat) (r:List Int),(List.range n)[i]? = some b->rows[i]? = some r -> ∀ (t:Nat) (u:List Int),word[t]? = some (b:Int)->us[t]? = some u->r.Perm u/\r.Pairwise (· <= ·)) /\
   j6 (g1 0) cL (cB cP (aA (cB iZ (aA (aE wM (aB 1) (aB 0)) aC)) aC)) [none,some (.kR (word.map Sum.inl) (us.map aG))] ((List.range n).map fun b:Nat=>D.int (b:Int))=some (rows.map tupI):=by
  refine QE (fun b:Nat=>D.int (b:Int)) tupI _ (List.range n) fun b hb=>?_
  have hb2:=List.mem_range.mp hb
  have hm:(b:Int)∈word:=hpw.mem_iff.mpr (List.mem_map.mpr ⟨b,hb,rfl⟩)
  obtain ⟨t,ht⟩:=List.mem_iff_getElem?.mp hm
  obtain ⟨u,hu2⟩:∃ u,us[t]? = some u:=⟨_,List.getElem?_eq_getElem (by have:=(List.getElem?_eq_some_iff.mp ht).1; omega)⟩
  have lu:=ZK _ _ (hg t u hu2)
  refine ⟨_,sortI u,rfl,?_,fun t' u' e1 e2=>?_⟩
  ·walk_at "ev"
   simp only [wM,wL,Option.bind_some]
   rw [tT ndw ht hu2]
   simp only [aG]
   walk_at "ev"
   rw [sorted_ints (by omega)]
   rfl
  ·have e:=Ord.w4 ndw e1 ht
   subst e
   rw [hu2] at e2
   cases e2
   exact ⟨sortI_perm u,rO u⟩
 obtain ⟨rows,hr1,hr2,ec⟩:=ec
 rw [List.length_range] at hr1
 refine kB (aV rows) ?_ ⟨rows,hr1,hg.rows hul hpw hr1 fun b t r u e1 e2 e3=>hr2 b b r (by rw [List.getElem?_range (by have:=(List.getElem?_eq_some_iff.mp e1).1; omega)]) e1 t u e2 e3,rfl⟩
 have e6:(aR 0 n).map D.int=(List.range n).map fun b:Nat=>D.int (b:Int):=by
  unfold aR
  rw [List.map_map]
  exact List.map_congr_left fun b _=>by show D.int (0+(b:Int))=_; rw [Int.zero_add]
 have e7:=i8 (nl:=1) (fr:=[6]) (it:=aU (aA (aB 1) aC)) (g:=g1 0) (t:=cL) (e:=cB cP (aA (cB iZ (aA (aE wM (aB 1) (aB 0)) aC)) aC)) (ρ:=dR [Sv.ro (aG dr),Sv.ro (.int n),Sv.ro (.int th),v3,Sv.ow (aG word),kv,Sv.ow (.kR (word.map Sum.inl) (us.map aG)),v7,v8,v9,v10]) ((aR 0 n).map D.int)
  (by walk_at "ev"; exact rN (by omega)) (by rw [List.length_map,aO]; omega) (by rw [e6]; exact ec)
 exact eX e7 rfl
theorem VM (n:Nat):2*Ord.tri n+n=n*n:=by
 induction n with
 | zero=>rfl
 | succ n ih =>
  show 2*(Ord.tri n+n)+(n+1)=(n+1)*(n+1)
  have:(n+1)*(n+1)=n*n+2*n+1:=by rw [Nat.add_mul,Nat.mul_add]; omega
  omega
theorem FT (ns:List Int) (k m s:Int) (h0:0<=m) (h1:m<=9) :
  ∃ d,fG [.nN ns,.int k,.int m,.int s]=.ok d /\ ∃ rows:List (List Int),(rows.length:Int)<=m/\Ord.Rows rows/\d=aV rows:=by
 unfold fG
 refine lL rfl ?_
 obtain ⟨c1,ec1⟩:=vL ns k
 obtain ⟨xs,hx,hxn,ex⟩:=xJ c1 4 s (by decide) (by decide)
 obtain ⟨c2,ec2⟩:=vL ns (k+1)
 obtain ⟨a,b,r,rfl⟩:∃ a b r,xs=a::b::r:=by
  match xs,hx with
  | a::b::r,_=>exact ⟨a,b,r,rfl⟩
 have hm0:=Int.emod_nonneg a (show m+1≠0 by omega)
 have hm1:=Int.emod_lt_of_pos a (show 0<m+1 by omega)
 obtain ⟨n,hn⟩:∃ n:Nat,a % (m+1)=(n:Int):=⟨(a % (m+1)).toNat,by omega⟩
 have hn9:n<=9:=by omega
 have et:=VM n
 have hq:(n:Int)*((n:Int) - 1) / 2=(Ord.tri n:Int):=by
  have:(n:Int)*((n:Int) - 1)=2*(Ord.tri n:Int):=by
   have e2:((n*n:Nat):Int)=(n:Int)*n:=by simp
   rw [Int.mul_sub,Int.mul_one]
   omega
  rw [this,Int.mul_ediv_cancel_left _ (by decide)]
 have aP3:Ord.tri n<=36:=Ord.P9 hn9
 obtain ⟨ys,hy,hyn,ey⟩:=xJ c2 ((n:Int)+Ord.tri n) (s+10007) (by omega) (by omega)
 refine bL _ (fV (aG (a::b::r)) (lM (dD rfl rfl ec1) rfl rfl ex) rfl) ?_
 refine bL _ (fV (.int n) ?_ rfl) ?_
 ·simp only [aG]
  walk_at "ev"
  rw [show FF (D.int a::D.int b::r.map D.int) 0=some (D.int a) from DG (k:=0) rfl]
  walk_at "ev"
  rw [eQ (by omega),hn]
 refine bL _ (fV (aG ys) (lM (dD rfl rfl ec2) ?_ rfl ey) rfl) ?_
 ·walk_at "ev"
  rw [lK (by omega)]
  walk_at "ev"
  rw [mB (by decide) (by decide),hq]
  walk_at "ev"
 have hb0:=Int.emod_nonneg b (show (8:Int)≠0 by decide)
 have hb1:=Int.emod_lt_of_pos b (show (0:Int)<8 by decide)
 have hth:∃ th:Int,aE fA (eW (aA (eC (.int 1)) (aA (eC (.int 1)) (aA (eC (.int 2)) (aA (eC (.int 2)) (aA (eC (.int 3)) (aA (eC (.int 1)) (aA (eC (.int 0)) (aA (eC (.int 4)) aC))))))))) (aE iJ (aE fA (aB 4) (eC (.int 1))) (eC (.int 8))) [some (.nN ns),some (.int k),some (.int m),some (.int s),some (aG (a::b::r)),some (.int n),some (aG ys)]=some (.int th):=by
  obtain ⟨x,hx,e,_⟩:=DF (xs:=[(1:Int),1,2,2,3,1,0,4]) (i:=b % 8) hb0 hb1
  refine ⟨x,bP (x:=.lst ([(1:Int),1,2,2,3,1,0,4].map D.int)) rfl (y:=.int (b % 8)) ?_ ?_⟩
  ·refine bP (x:=.int b) (y:=.int 8) ?_ rfl (eQ (by decide))
   simp only [aG]
   walk_at "ev"
   exact DG (k:=1) rfl
  ·rw [vH,vK,e]; rfl
 obtain ⟨th,eth⟩:=hth
 obtain ⟨d,ed,rows,hr1,hr2,rfl⟩:=QI ys n th hn9 (by omega)
 exact kB (aV rows) (lM rfl rfl eth ed) ⟨rows,by omega,hr2,rfl⟩
noncomputable def xK:gH:=cM 2 2
  (bD (cB cP (aA (bV 2 [1] (rK (aA (aB 0) aC)) (g2 0 1) (tV (aE (tH false) (aB 2) (aB 1))) (aB 0)) aC)))
noncomputable def lN:gH:=cM 1 1
  (bD (cB cP (aA (bV 1 [0] (aU (aA (cB bY (aA (aB 0) aC)) aC)) (g1 0) cL (aI LL.xK (aA (aB 1) (aA (aB 0) aC)))) aC)))
noncomputable def IR:Nat->D->Prop
 | 0,_=>False
 | n+1,.tup ds=>ds.length<=1000000 /\ ∀ d∈ds,IR n d
 | _+1,.int _=>True
 | _+1,.bl _=>True
 | _+1,.non=>True
 | _+1,.str _=>True
 | _+1,_=>False
theorem isi {T:String} {f:EF} {ρ:cD} {d:D} (h:f ρ=some d) (hn:IK d=true:=by rfl):j5 T f ρ=some (.bl (IJ T d)):=by unfold j5; rw [h]; exact if_pos hn
theorem same_refl:∀ (n:Nat) (d:D),IR n d->bR n [d,d]=.ok (.bl true)
 | 0,_,h=>h.elim
 | n+1,.tup ds,h=>by
  have hl:=h.1
  unfold bR
  refine hJ rfl (FP (QA (by unfold tV; rw [isi rfl]; rfl) (eB _ (xF ?_ rfl) (iG ?_))))
  ·simp only [eA,aJ,iF,bD,aT,LA,hW,P3,wQ,FO,sX,dQ,eJ,aB,eC,aE,tV,jL,uW,FE,mR,eOr,AH,U5,CZ,mS,aC,aA,cB,aI,FL,j5,cU,aU,rK,ZG,M9,g1,g2,j8,ZI,AZ,cL,benv,VA,U9,oE,asInt,bT,rH,qH,dR,lI,Sv.all,Sv.rd,List.map_cons,List.map_nil,List.getElem?_cons_zero,List.getElem?_cons_succ,List.getElem?_nil,Option.join_some,Option.join_none,Option.bind_some,Option.bind_none,Option.map_some,Option.map_none,List.set_cons_zero,List.set_cons_succ,List.set_nil,List.length_cons,List.length_nil,List.length_map,List.cons_append,List.nil_append,List.replicate_succ,List.replicate_zero,Nat.reduceSub,Nat.reduceAdd,Nat.reduceEqDiff,oU,qK,qL,xB,U6,fH,w8,C6,C7,mT,rL,gP,C8,tK,oS,C9,wK,vH,vI,DA,w9,nQ,xA,qI,qJ,tL,tM,tN,tO,tP,tQ,xC,xD,if_true,if_false,ite_true,ite_false,reduceIte,decide_true,decide_false,decide_eq_true_eq,Bool.false_eq_true,Bool.not_true,Bool.not_false,mU,DC]
   simp [IJ,tyM,eA,dR,j5,IK,aB,Sv.all,nO]
  ·have e1:=i8 (nl:=1) (fr:=[0,1]) (it:=aU (aA (cB bY (aA (aB 1) aC)) aC)) (g:=g1 0) (t:=cL) (e:=aI (bR n) (aA (aE fA (aB 1) (aB 0)) (aA (aE fA (aB 2) (aB 0)) aC))) (ρ:=[some (.tup ds),some (.tup ds)]) ((aR 0 ds.length).map D.int) (ys:=(aR 0 ds.length).map fun _=>D.bl true)
    (by simp only [eA,aJ,iF,bD,aT,LA,hW,P3,wQ,FO,sX,dQ,eJ,aB,eC,aE,tV,jL,uW,FE,mR,eOr,AH,U5,CZ,mS,aC,aA,cB,aI,FL,j5,cU,aU,rK,ZG,M9,g1,g2,j8,ZI,AZ,cL,benv,VA,U9,oE,asInt,bT,rH,qH,dR,lI,Sv.all,Sv.rd,List.map_cons,List.map_nil,List.getElem?_cons_zero,List.getElem?_cons_succ,List.getElem?_nil,Option.join_some,Option.join_none,Option.bind_some,Option.bind_none,Option.map_some,Option.map_none,List.set_cons_zero,List.set_cons_succ,List.set_nil,List.length_cons,List.length_nil,List.length_map,List.cons_append,List.nil_append,List.replicate_succ,List.replicate_zero,Nat.reduceSub,Nat.reduceAdd,Nat.reduceEqDiff,oU,qK,qL,xB,U6,fH,w8,C6,C7,mT,rL,gP,C8,tK,oS,C9,wK,vH,vI,DA,w9,nQ,xA,qI,qJ,tL,tM,tN,tO,tP,tQ,xC,xD,if_true,if_false,ite_true,ite_false,reduceIte,decide_true,decide_false,decide_eq_true_eq,Bool.false_eq_true,Bool.not_true,Bool.not_false,mU,DC]; exact rN (by omega)) (by rw [List.length_map,aO]; omega) (A4 D.int (fun _=>D.bl true) (aR 0 ds.length) fun k hk=>by
     have hk:=bI.mp hk
     obtain ⟨x,hx,e,_⟩:=DF (xs:=ds) (i:=k) (by omega) (by omega)
     show aI (bR n) _ _=_
     exact dD (bP rfl rfl e) (bP rfl rfl e) (same_refl n x (h.2 x hx)))
   refine eX e1 ?_
   have:(aR 0 ds.length).map (fun _=>D.bl true)=((aR 0 ds.length).map fun _=>true).map D.bl:=by rw [List.map_map]; rfl
   rw [this,DD]
   congr 2
   simp
 | n+1,.int i,_=>by
  unfold bR
  refine hJ rfl (eB _ (xF rfl rfl) (eB _ (xF rfl rfl) (eB _ (xF rfl rfl) (FP (QA rfl (iG ?_))))))
  show mR _ _ _=_
  simp [mR,AH,j5,IK,aB,IJ,tyM,rJ,aE,gP,tK,oS,eA,dR,Sv.all]
 | n+1,.bl b,_=>by
  unfold bR
  refine hJ rfl (eB _ (xF rfl rfl) (eB _ (xF rfl rfl) (FP (QA rfl (iG ?_)))))
  simp [mR,AH,j5,IK,aB,IJ,tyM,rJ,aE,gP,tK,oS,eA,dR,Sv.all]
 | n+1,.non,_=>by
  unfold bR
  exact hJ rfl (eB _ (xF rfl rfl) (FP (QA rfl (iG rfl))))
 | n+1,.str x,_=>by
  unfold bR
  refine hJ rfl (eB _ (xF rfl rfl) (eB _ (xF rfl rfl) (eB _ (xF rfl rfl) (eB _ (xF rfl rfl) (iG ?_)))))
  simp [mR,AH,j5,IK,aB,IJ,tyM,rJ,aE,gP,tK,oS,eA,dR,Sv.all]
 | n+1,.lst _,h=>h.elim
 | n+1,.nN _,h=>h.elim
 | n+1,.kR _ _,h=>h.elim
 | n+1,.fC _ _ _,h=>h.elim
 | n+1,.exc _ _,h=>h.elim
theorem IS {n:Nat} {xs:List Int} (h:xs.length<=1000000):IR (n+2) (tupI xs):=⟨by rw [List.length_map]; exact h,fun d hd=>by
 obtain ⟨i,_,rfl⟩:=List.mem_map.mp hd; trivial⟩
noncomputable def row (rows:List (List Int)) (b:Int):List Int:=(rows[b.toNat]?).getD []
theorem QJ {rows:List (List Int)} {i:Int} (h0:0<=i) (h1:i<rows.length):fA (aV rows) (.int i)=some (tupI (row rows i)):=by
 have hl:i.toNat<rows.length:=by omega
 rw [show aV rows=.tup (rows.map tupI) from rfl,vI,vK]
 unfold FF row
 rw [xH h0 h1]
 simp [hl]
theorem ZL {i:Int} {xs:List Int}:tH false (.int i) (tupI xs)=some (.bl (xs.contains i)):=by
 unfold tupI; rw [mU]; rfl
theorem VN {i:Int} {xs:List Int}:tH true (.int i) (tupI xs)=some (.bl (!xs.contains i)):=by
 unfold tupI; rw [mU]; rfl
theorem eD {rows:List (List Int)}:bY [aV rows]=some (.int rows.length):=by unfold aV; rw [nQ,List.length_map]
theorem FU {xs:List Int}:bY [tupI xs]=some (.int xs.length):=by unfold tupI; rw [nQ,List.length_map]
theorem zipIdx_map {α β:Type} (f:α->β) (l:List α) (m:Nat):(l.map f).zipIdx m=(l.zipIdx m).map fun p=>(f p.1,p.2):=by
 induction l generalizing m with
 | nil=>rfl
 | cons a l ih=>simp [List.zipIdx_cons,ih]
end LL
end
section
namespace Ord
noncomputable def can (n:Nat) (R:Nat->Nat->Bool):List (List Int):=(List.range n).map fun b=>((List.range n).filter fun a=>R a b).map fun a:Nat=>(a:Int)
noncomputable def rel (rows:List (List Int)) (a b:Nat):Bool:=(rows.getD b []).contains (a:Int)
theorem mW (n:Nat) (R:Nat->Nat->Bool):(can n R).length=n:=by simp [can]
theorem DK {n:Nat} {R:Nat->Nat->Bool} {b:Nat} (hb:b<n):(can n R)[b]? = some (((List.range n).filter fun a=>R a b).map fun a:Nat=>(a:Int)):=by
 unfold can
 rw [List.getElem?_map,List.getElem?_range hb]
 rfl
theorem vM {n:Nat} {R:Nat->Nat->Bool} {a b:Nat}:(a:Int)∈(((List.range n).filter fun a=>R a b).map fun a:Nat=>(a:Int))↔a<n/\R a b=true:=by
 constructor
 ·intro h
  obtain ⟨c,hc,e⟩:=List.mem_map.mp h
  have e2:c=a:=by omega
  subst e2
  obtain ⟨h1,h2⟩:=List.mem_filter.mp hc
  exact ⟨List.mem_range.mp h1,h2⟩
 ·rintro ⟨h1,h2⟩
  exact List.mem_map.mpr ⟨a,List.mem_filter.mpr ⟨List.mem_range.mpr h1,h2⟩,rfl⟩
theorem up_eq:∀ (l m:List Int),l.Pairwise (·<·)->m.Pairwise (·<·)->(∀ x,x∈l↔x∈m)->l=m
 | [],[],_,_,_=>rfl
 | [],b::m,_,_,h=>by have:=(h b).mpr List.mem_cons_self; cases this
 | a::l,[],_,_,h=>by have:=(h a).mp List.mem_cons_self; cases this
 | a::l,b::m,hl,hm,h=>by
  obtain ⟨l1,l2⟩:=List.pairwise_cons.mp hl
  obtain ⟨m1,m2⟩:=List.pairwise_cons.mp hm
  have e:a=b:=by
   have h1:=List.mem_cons.mp ((h a).mp List.mem_cons_self)
   have h2:=List.mem_cons.mp ((h b).mpr List.mem_cons_self)
   rcases h1 with h1 | h1
   ·exact h1
   ·rcases h2 with h2 | h2
    ·exact h2.symm
    ·have:=m1 a h1
     have:=l1 b h2
     omega
  subst e
  congr 1
  refine up_eq l m l2 m2 fun x=>⟨fun hx=>?_,fun hx=>?_⟩
  ·rcases List.mem_cons.mp ((h x).mp (List.mem_cons_of_mem _ hx)) with h1 | h1
   ·have:=l1 x hx; omega
   ·exact h1
  ·rcases List.mem_cons.mp ((h x).mpr (List.mem_cons_of_mem _ hx)) with h1 | h1
   ·have:=m1 x hx; omega
   ·exact h1
theorem IT {n:Nat} {R:Nat->Nat->Bool} {b:Nat}:(((List.range n).filter fun a=>R a b).map fun a:Nat=>(a:Int)).Pairwise (·<·):=by
 refine List.Pairwise.map _ (fun a b h=>?_) (List.Pairwise.filter _ List.pairwise_lt_range)
 show (a:Int)<(b:Int)
 omega
theorem Rows.can {rows:List (List Int)} (h:Rows rows):rows=Ord.can rows.length (rel rows):=by
 refine List.ext_getElem? fun b=>?_
 by_cases hb:b<rows.length
 ·rw [DK hb,List.getElem?_eq_getElem hb]
  have e:rows[b]? = some rows[b]:=List.getElem?_eq_getElem hb
  congr 1
  refine up_eq _ _ (h.up b _ e) IT fun x=>⟨fun hx=>?_,fun hx=>?_⟩
  ·obtain ⟨h0,h1⟩:=h.rng b _ e x hx
   obtain ⟨a,rfl⟩:∃ a:Nat,x=(a:Int):=⟨x.toNat,by omega⟩
   refine vM.mpr ⟨by omega,?_⟩
   unfold rel
   rw [List.getD_eq_getElem?_getD,e]; simpa using hx
  ·obtain ⟨a,ha,rfl⟩:=List.mem_map.mp hx
   have:=(List.mem_filter.mp ha).2
   unfold rel at this
   rw [List.getD_eq_getElem?_getD,e] at this
   simpa using this
 ·rw [List.getElem?_eq_none (by omega),List.getElem?_eq_none (by rw [mW]; omega)]
theorem xL {n:Nat} {R:Nat->Nat->Bool} (irr:∀ a,a<n->R a a=false) (tr:∀ a b c,a<n->b<n->c<n->R a b=true->R b c=true->R a c=true):Rows (Ord.can n R):=by
 have row:∀ {b:Nat} {r:List Int},(Ord.can n R)[b]? = some r->b<n/\r=(((List.range n).filter fun a=>R a b).map fun a:Nat=>(a:Int)):=fun {b r} e=>by
  have hb:b<n:=by have:=(List.getElem?_eq_some_iff.mp e).1; rw [mW] at this; exact this
  rw [DK hb] at e
  exact ⟨hb,(Option.some.inj e).symm⟩
 refine ⟨fun b r e=>?_,fun b r e x hx=>?_,fun b a r v e ha ev c hc=>?_,fun b r e hb=>?_⟩
 ·rw [(row e).2]; exact IT
 ·rw [(row e).2] at hx
  obtain ⟨a,ha,rfl⟩:=List.mem_map.mp hx
  have:=List.mem_range.mp (List.mem_filter.mp ha).1
  rw [mW]
  omega
 ·obtain ⟨hb,er⟩:=row e
  obtain ⟨hav,ev2⟩:=row ev
  rw [er] at ha ⊢
  rw [ev2] at hc
  obtain ⟨c',hc',rfl⟩:=List.mem_map.mp hc
  obtain ⟨c1,c2⟩:=List.mem_filter.mp hc'
  have c1:=List.mem_range.mp c1
  obtain ⟨_,a2⟩:=vM.mp ha
  exact vM.mpr ⟨c1,tr _ _ _ c1 hav hb c2 a2⟩
 ·obtain ⟨hb',er⟩:=row e
  rw [er] at hb
  have:=(vM.mp hb).2
  rw [irr b hb'] at this
  cases this
theorem Rows.ND {rows:List (List Int)} (h:Rows rows) {a:Nat} (ha:a<rows.length):rel rows a a=false:=by
 unfold rel
 rw [List.getD_eq_getElem?_getD,List.getElem?_eq_getElem ha]
 have:=h.irr a _ (List.getElem?_eq_getElem ha)
 simpa using this
theorem Rows.tr' {rows:List (List Int)} (h:Rows rows) {a b c:Nat} (hb:b<rows.length) (hc:c<rows.length) (h1:rel rows a b=true) (h2:rel rows b c=true):rel rows a c=true:=by
 unfold rel at *
 rw [List.getD_eq_getElem?_getD,List.getElem?_eq_getElem hb] at h1
 rw [List.getD_eq_getElem?_getD,List.getElem?_eq_getElem hc] at h2 ⊢
 have h1:(a:Int)∈rows[b]:=by simpa using h1
 have h2:(b:Int)∈rows[c]:=by simpa using h2
 have:=h.tr c b _ _ (List.getElem?_eq_getElem hc) h2 (List.getElem?_eq_getElem hb) _ h1
 simpa using this
noncomputable def side (x y:List (List Int)):List (List Int):=can (x.length+y.length) fun a b=>if a<x.length then (if b<x.length then rel x a b else false) else (if b<x.length then false else rel y (a - x.length) (b - x.length))
noncomputable def plain (x y:List (List Int)):List (List Int):=can (x.length+y.length) fun a b=>if a<x.length then (if b<x.length then rel x a b else true) else (if b<x.length then false else rel y (a - x.length) (b - x.length))
noncomputable def strict (x y:List (List Int)):List (List Int):=can (x.length+y.length) fun a b=>if a<y.length then (if b<y.length then rel y a b else false) else (if b<y.length then true else rel x (a - y.length) (b - y.length))
theorem Rows.side {x y:List (List Int)} (hx:Rows x) (hy:Rows y):Rows (side x y):=by
 refine xL (fun a ha=>?_) fun a b c ha hb hc h1 h2=>?_
 ·by_cases h:a<x.length
  ·simp only [h,if_true]; exact hx.ND h
  ·simp only [h,if_false]; exact hy.ND (by omega)
 ·by_cases p:a<x.length<;>by_cases q:b<x.length<;>by_cases r:c<x.length<;>simp only [p,q,r,if_true,if_false] at h1 h2 ⊢
  ·exact hx.tr' q r h1 h2
  ·cases h2
  ·cases h1
  ·cases h1
  ·cases h1
  ·cases h1
  ·cases h2
  ·exact hy.tr' (by omega) (by omega) h1 h2
theorem Rows.plain {x y:List (List Int)} (hx:Rows x) (hy:Rows y):Rows (plain x y):=by
 refine xL (fun a ha=>?_) fun a b c ha hb hc h1 h2=>?_
 ·by_cases h:a<x.length
  ·simp only [h,if_true]; exact hx.ND h
  ·simp only [h,if_false]; exact hy.ND (by omega)
 ·by_cases p:a<x.length<;>by_cases q:b<x.length<;>by_cases r:c<x.length<;>simp only [p,q,r,if_true,if_false] at h1 h2 ⊢
  ·exact hx.tr' q r h1 h2
  ·cases h2
  ·cases h1
  ·cases h1
  ·cases h2
  ·exact hy.tr' (by omega) (by omega) h1 h2
theorem Rows.strict {x y:List (List Int)} (hx:Rows x) (hy:Rows y):Rows (strict x y):=by
 refine xL (fun a ha=>?_) fun a b c ha hb hc h1 h2=>?_
 ·by_cases h:a<y.length
  ·simp only [h,if_true]; exact hy.ND h
  ·simp only [h,if_false]; exact hx.ND (by omega)
 ·by_cases p:a<y.length<;>by_cases q:b<y.length<;>by_cases r:c<y.length<;>simp only [p,q,r,if_true,if_false] at h1 h2 ⊢
  ·exact hy.tr' q r h1 h2
  ·cases h2
  ·cases h1
  ·cases h1
  ·cases h2
  ·exact hx.tr' (by omega) (by omega) h1 h2
end Ord
end
section
namespace Ord
theorem vN {x:List (List Int)} {a b:Nat} {r:List Int} (h:x[b]? = some r):rel x a b=true↔(a:Int)∈r:=by
 unfold rel
 rw [List.getD_eq_getElem?_getD,h]
 simp
theorem IU {L:List (List Int)} {n:Nat} {R:Nat->Nat->Bool} (hl:L.length=n) (hup:∀ (b:Nat) (r:List Int),L[b]? = some r->r.Pairwise (·<·))
  (hm:∀ (b:Nat) (r:List Int),L[b]? = some r -> ∀ z:Int,z∈r ↔ ∃ a:Nat,z=(a:Int)/\a<n/\R a b=true):L=can n R:=by
 refine List.ext_getElem? fun b=>?_
 by_cases hb:b<n
 ·have e:L[b]? = some (L[b]'(by omega)):=List.getElem?_eq_getElem (by omega)
  rw [DK hb,e]
  congr 1
  refine up_eq _ _ (hup b _ e) IT fun z=>?_
  rw [hm b _ e z,List.mem_map]
  constructor
  ·rintro ⟨a,rfl,h1,h2⟩
   exact ⟨a,List.mem_filter.mpr ⟨List.mem_range.mpr h1,h2⟩,rfl⟩
  ·rintro ⟨a,h,rfl⟩
   obtain ⟨h1,h2⟩:=List.mem_filter.mp h
   exact ⟨a,rfl,List.mem_range.mp h1,h2⟩
 ·rw [List.getElem?_eq_none (by omega),List.getElem?_eq_none (by rw [mW]; omega)]
noncomputable def shift (m:Int) (r:List Int):List Int:=r.map fun z=>z+m
theorem xM {m:Int} {r:List Int} (h:r.Pairwise (·<·)):(shift m r).Pairwise (·<·):=List.Pairwise.map _ (fun a b (hab:a<b)=>by omega) h
theorem oY {m z:Int} {r:List Int}:z∈shift m r↔z - m∈r:=by
 unfold shift
 rw [List.mem_map]
 constructor
 ·rintro ⟨w,hw,rfl⟩; rwa [Int.add_sub_cancel]
 ·intro h; exact ⟨z - m,h,by omega⟩
theorem QK {l m:List Int} (hl:l.Pairwise (·<·)) (hm:m.Pairwise (·<·)) (h:∀ a∈l,∀ b∈m,a<b):(l++m).Pairwise (·<·):=List.pairwise_append.mpr ⟨hl,hm,h⟩
theorem mX {y:List (List Int)} (h:Rows y) {b m:Nat} {v:List Int} (hv:y[b]? = some v) {z:Int}:z∈shift m v ↔ ∃ a:Nat,z=(a:Int)/\m<=a/\a<m+y.length/\rel y (a - m) b=true:=by
 rw [oY]
 constructor
 ·intro hz
  obtain ⟨q1,q2⟩:=h.rng _ _ hv _ hz
  refine ⟨z.toNat,by omega,by omega,by omega,?_⟩
  rw [vN hv,show ((z.toNat - m:Nat):Int)=z - m by omega]
  exact hz
 ·rintro ⟨a,rfl,h1,h2,h3⟩
  rw [vN hv,show ((a - m:Nat):Int)=(a:Int) - m by omega] at h3
  exact h3
theorem xN {y:List (List Int)} (h:Rows y) {b:Nat} {v:List Int} (hv:y[b]? = some v) {z:Int}:z∈v ↔ ∃ a:Nat,z=(a:Int)/\a<y.length/\rel y a b=true:=by
 constructor
 ·intro hz
  obtain ⟨q1,q2⟩:=h.rng _ _ hv _ hz
  refine ⟨z.toNat,by omega,by omega,?_⟩
  rw [vN hv,show ((z.toNat:Nat):Int)=z by omega]
  exact hz
 ·rintro ⟨a,rfl,h1,h2⟩
  rwa [vN hv] at h2
theorem oZ {x y:List (List Int)} {f g:List Int->List Int} {b:Nat} {r:List Int} (e:(x.map f++y.map g)[b]? = some r) :
  (b<x.length /\ ∃ v,x[b]? = some v/\r=f v)\/(¬ b<x.length/\b<x.length+y.length /\ ∃ v,y[b - x.length]? = some v/\r=g v):=by
 by_cases hb:b<x.length
 ·left
  rw [List.getElem?_append_left (by simpa using hb),List.getElem?_map,List.getElem?_eq_getElem hb] at e
  exact ⟨hb,_,List.getElem?_eq_getElem hb,(Option.some.inj e).symm⟩
 ·right
  rw [List.getElem?_append_right (by simpa using hb),List.getElem?_map,List.length_map] at e
  cases q:y[b - x.length]? with
  | none=>rw [q] at e; cases e
  | some v =>
   rw [q] at e
   have:=(List.getElem?_eq_some_iff.mp q).1
   exact ⟨hb,by omega,v,rfl,(Option.some.inj e).symm⟩
noncomputable def LF (x y:List (List Int)):List (List Int):=x.map id++y.map (shift x.length)
theorem FV {x y:List (List Int)} (hx:Rows x) (hy:Rows y):LF x y=side x y:=by
 refine IU (by simp [LF]) (fun b r e=>?_) fun b r e z=>?_
 ·rcases oZ e with ⟨hb,v,hv,rfl⟩ | ⟨hb,hb2,v,hv,rfl⟩
  ·exact hx.up _ _ hv
  ·exact xM (hy.up _ _ hv)
 ·rcases oZ e with ⟨hb,v,hv,rfl⟩ | ⟨hb,hb2,v,hv,rfl⟩
  ·rw [xN hx hv]
   constructor
   ·rintro ⟨a,rfl,h1,h2⟩
    exact ⟨a,rfl,by omega,by rw [if_pos h1,if_pos hb]; exact h2⟩
   ·rintro ⟨a,rfl,h1,h2⟩
    by_cases p:a<x.length
    ·rw [if_pos p,if_pos hb] at h2; exact ⟨a,rfl,p,h2⟩
    ·rw [if_neg p,if_pos hb] at h2; cases h2
  ·rw [mX hy hv]
   constructor
   ·rintro ⟨a,rfl,h1,h2,h3⟩
    exact ⟨a,rfl,h2,by rw [if_neg (by omega),if_neg hb]; exact h3⟩
   ·rintro ⟨a,rfl,h1,h2⟩
    by_cases p:a<x.length
    ·rw [if_pos p,if_neg hb] at h2; cases h2
    ·rw [if_neg p,if_neg hb] at h2; exact ⟨a,rfl,by omega,h1,h2⟩
noncomputable def DL (x y:List (List Int)):List (List Int):=x.map id++y.map fun r=>L4.aR 0 x.length++shift x.length r
theorem xO (lo:Int) (n:Nat):(L4.aR lo n).Pairwise (·<·):=List.Pairwise.map _ (fun a b (h:a<b)=>by omega) List.pairwise_lt_range
theorem A7 {x y:List (List Int)} (hx:Rows x) (hy:Rows y):DL x y=plain x y:=by
 refine IU (by simp [DL]) (fun b r e=>?_) fun b r e z=>?_
 ·rcases oZ e with ⟨hb,v,hv,rfl⟩ | ⟨hb,hb2,v,hv,rfl⟩
  ·exact hx.up _ _ hv
  ·refine QK (xO _ _) (xM (hy.up _ _ hv)) fun a ha c hc=>?_
   have ha:=LL.bI.mp ha
   obtain ⟨c',rfl,h1,_⟩:=(mX hy hv).mp hc
   omega
 ·rcases oZ e with ⟨hb,v,hv,rfl⟩ | ⟨hb,hb2,v,hv,rfl⟩
  ·rw [xN hx hv]
   constructor
   ·rintro ⟨a,rfl,h1,h2⟩
    exact ⟨a,rfl,by omega,by rw [if_pos h1,if_pos hb]; exact h2⟩
   ·rintro ⟨a,rfl,h1,h2⟩
    by_cases p:a<x.length
    ·rw [if_pos p,if_pos hb] at h2; exact ⟨a,rfl,p,h2⟩
    ·rw [if_neg p,if_pos hb] at h2; cases h2
  ·rw [List.mem_append,LL.bI,mX hy hv]
   constructor
   ·rintro (h | ⟨a,rfl,h1,h2,h3⟩)
    ·exact ⟨z.toNat,by omega,by omega,by rw [if_pos (by omega),if_neg hb]⟩
    ·exact ⟨a,rfl,h2,by rw [if_neg (by omega),if_neg hb]; exact h3⟩
   ·rintro ⟨a,rfl,h1,h2⟩
    by_cases p:a<x.length
    ·left; omega
    ·rw [if_neg p,if_neg hb] at h2; exact .inr ⟨a,rfl,by omega,h1,h2⟩
noncomputable def DM (x y:List (List Int)):List (List Int):=(y.map fun r=>r++L4.aR y.length x.length)++x.map (shift y.length)
theorem xP {x y:List (List Int)} (hx:Rows x) (hy:Rows y):DM x y=strict x y:=by
 refine IU (by simp [DM]; omega) (fun b r e=>?_) fun b r e z=>?_
 ·rcases oZ e with ⟨hb,v,hv,rfl⟩ | ⟨hb,hb2,v,hv,rfl⟩
  ·refine QK (hy.up _ _ hv) (xO _ _) fun a ha c hc=>?_
   have hc:=LL.bI.mp hc
   have:=hy.rng _ _ hv _ ha
   omega
  ·exact xM (hx.up _ _ hv)
 ·rcases oZ e with ⟨hb,v,hv,rfl⟩ | ⟨hb,hb2,v,hv,rfl⟩
  ·rw [List.mem_append,LL.bI,xN hy hv]
   constructor
   ·rintro (⟨a,rfl,h1,h2⟩ | h)
    ·exact ⟨a,rfl,by omega,by rw [if_pos h1,if_pos hb]; exact h2⟩
    ·exact ⟨z.toNat,by omega,by omega,by rw [if_neg (by omega),if_pos hb]⟩
   ·rintro ⟨a,rfl,h1,h2⟩
    by_cases p:a<y.length
    ·rw [if_pos p,if_pos hb] at h2; exact .inl ⟨a,rfl,p,h2⟩
    ·right; omega
  ·rw [mX hx hv]
   constructor
   ·rintro ⟨a,rfl,h1,h2,h3⟩
    exact ⟨a,rfl,by omega,by rw [if_neg (by omega),if_neg hb]; exact h3⟩
   ·rintro ⟨a,rfl,h1,h2⟩
    by_cases p:a<y.length
    ·rw [if_pos p,if_neg hb] at h2; cases h2
    ·rw [if_neg p,if_neg hb] at h2; exact ⟨a,rfl,by omega,by omega,h2⟩
theorem Rows.short {x:List (List Int)} (h:Rows x) {r:List Int} (hr:r∈x):r.length<=x.length:=by
 obtain ⟨b,hb⟩:=List.mem_iff_getElem?.mp hr
 have nd:r.Nodup:=(h.up b r hb).imp fun q=>by omega
 have:=gQ r (L4.aR 0 x.length) nd fun a ha=>LL.bI.mpr (by have:=h.rng b r hb a ha; omega)
 rwa [LL.aO] at this
end Ord
end
section
namespace K45
open PySem L3 L4
noncomputable def nI:gH:=cM 2 2
  (bD (cB cP (aA (bV 1 [1] (M9 (aA (aB 0) aC)) (g1 0) cL (aE dZ (aE dZ (aB 1) (eC (.int 1))) (aB 0))) aC)))
noncomputable def kC:gH:=cM 1 1
  (bD (cB cP (aA (bV 1 [0] (M9 (aA (aB 0) aC)) (g1 0) cL (aI nI (aA (aB 0) (aA (cB bY (aA (aB 1) aC)) aC)))) aC)))
noncomputable def rQ:gH:=cM 3 1
  (aJ (aT 1 (eW aC))
  (aJ (dQ (aU (aA (cB bY (aA (aB 0) aC)) aC)) (j8 2)
   (aT 1 (aE bO (aB 1) (bV 1 [2] (cU (aE fA (aB 0) (aB 2))) (g1 0) cL (lJ (aA (aB 0) (aA (aB 1) aC)))))))
  (bD (cB C4 (aA (aB 1) aC)))))
noncomputable def xQ:gH:=cM 2 2
  (bD (cB cP (aA (bV 1 [1] (aU (aA (aB 0) aC)) (g1 0) cL (cB cP (aA (cB iZ (aA (bV 2 [0] (cU (aB 1)) (g2 0 1) (tV (aE tG (aB 1) (aB 2))) (aB 0)) aC)) aC))) aC)))
noncomputable def rR:gH:=cM 7 1
  (aJ (aT 1 (aI LL.fG (aA (aB 0) (aA (eC (.int 0)) (aA (eC (.int 9)) (aA (eC (.int 100003)) aC))))))
  (aJ (aT 2 (cB bY (aA (aB 1) aC)))
  (aJ (aT 3 (aI rQ (aA (aB 1) aC)))
  (aJ (aT 4 (aI xQ (aA (aB 2) (aA (bV 2 [2] (cU (aB 3)) (g2 0 1) cL (lJ (aA (aE dZ (aE dZ (aB 2) (eC (.int 1))) (aB 0)) (aA (aE dZ (aE dZ (aB 2) (eC (.int 1))) (aB 1)) aC)))) aC))))
  (aJ (aT 5 (aI xQ (aA (aB 2) (aA (bV 2 [] (cU (aB 3)) (g2 0 1) cL (lJ (aA (aB 1) (aA (aB 0) aC)))) aC))))
  (aJ (aT 6 (aI xQ (aA (aB 2) (aA (bV 2 [2] (cU (aB 3)) (g2 0 1) cL (lJ (aA (aE dZ (aE dZ (aB 2) (eC (.int 1))) (aB 1)) (aA (aE dZ (aE dZ (aB 2) (eC (.int 1))) (aB 0)) aC)))) aC))))
  (aJ (iF (FE (jL (tV (aI (LL.bR 6) (aA (aI kC (aA (aB 1) aC)) (aA (aB 4) aC))))) (jL (tV (aI (LL.bR 6) (aA (aI LL.lN (aA (aB 1) aC)) (aA (aB 5) aC))))))
   (bD (eC (.bl false)))
   eJ)
  (aJ (iF (FE (jL (tV (aI (LL.bR 6) (aA (aI kC (aA (aB 4) aC)) (aA (aB 1) aC))))) (jL (tV (aI (LL.bR 6) (aA (aI LL.lN (aA (aB 5) aC)) (aA (aB 1) aC))))))
   (bD (eC (.bl false)))
   eJ)
  (bD (mR (aI (LL.bR 6) (aA (aI kC (aA (aB 5) aC)) (aA (aB 6) aC))) (aI (LL.bR 6) (aA (aI LL.lN (aA (aB 4) aC)) (aA (aB 6) aC)))))))))))))
end K45
end
section
namespace K45
open PySem L3 L4 LL
noncomputable def pr (p:Int×Int):List Int:=[p.1,p.2]
noncomputable def aCD (x:List (List Int)) (k:Nat):List (Int×Int):=(aR 0 k).flatMap fun b=>(row x b).map fun a=>(a,b)
noncomputable def un (t:List Int):Int×Int:=(t.getD 0 0,t.getD 1 0)
noncomputable def srt (l:List (Int×Int)):List (Int×Int):=(P5 (l.map pr)).map un
end K45
end
section
namespace K03
open PySem L3 L4
noncomputable def A8:gH:=cM 4 1
  (aJ (hW 1 (eW aC))
  (aJ (dQ (rK (aA (aB 0) aC)) (ZI 2 3)
   (sX (rH 1 aGZ (bT (bV 1 [2] (cU (aB 3)) (g1 0) cL (lJ (aA (aB 0) (aA (aB 1) aC))))))))
  (bD (cB cP (aA (cB C4 (aA (aB 1) aC)) aC)))))
noncomputable def NE:gH:=cM 4 2
  (aJ (aT 2 (aE fA (aB 1) (eC (.int 0))))
  (aJ (aT 3 (aE fA (aB 1) (eC (.int 1))))
  (bD (AH (cB anyM (aA (bV 1 [2,0] (cU (aE fA (aB 0) (aB 3))) (g1 0) cL (aE (tH false) (aB 1) (aE fA (aB 2) (aB 0)))) aC))))))
noncomputable def FW:gH:=cM 1 1
  (bD (cB cP (aA (bV 1 [0] (cU (aI A8 (aA (aB 0) aC))) (g1 0) (tV (aI NE (aA (aB 1) (aA (aB 0) aC)))) (aB 0)) aC)))
noncomputable def rQ:gH:=cM 3 1
  (aJ (aT 1 (eW aC))
  (aJ (dQ (aU (aA (cB bY (aA (aB 0) aC)) aC)) (j8 2)
   (aT 1 (aE bO (aB 1) (bV 1 [2] (cU (aE fA (aB 0) (aB 2))) (g1 0) cL (lJ (aA (aB 0) (aA (aB 1) aC)))))))
  (bD (cB C4 (aA (aB 1) aC)))))
noncomputable def IV:gH:=cM 9 2
  (aJ (hW 2 (eW aC))
  (aJ (dQ (aU (aA (aB 0) aC)) (j8 3)
   (aJ (hW 4 (eW aC))
   (aJ (hW 5 (eW (aA (aB 3) aC)))
   (aJ (IP C2 (tV (aE AG (cB bY (aA (aB 5) aC)) (eC (.int 0))))
    (aJ (LA 6 (aBq 5))
    (dQ (cU (aB 1)) (ZI 7 8)
     (iF (uW (tV (aE tG (aB 8) (aB 6))) (tV (aE (tH true) (aB 7) (aB 4))))
      (aJ (sX (rH 4 iK (bT (aB 7))))
      (sX (rH 5 iK (bT (aB 7)))))
      eJ))))
   (aJ (iF (tV (aE (tH false) (aB 3) (aB 4)))
    (bD (eC .non))
    eJ)
   (sX (rH 2 iK (p7 (cB cP (aA (cB iZ (aA (aB 4) aC)) aC))))))))))
  (bD (cB cP (aA (aB 2) aC)))))
noncomputable def QL:gH:=cM 5 1
  (aJ (hW 1 (eW aC))
  (aJ (dQ (cU (aI rQ (aA (aB 0) aC))) (ZI 2 3)
   (aJ (aT 4 (bV 1 [2,0,3] (aU (aA (cB bY (aA (aB 0) aC)) aC)) (g1 0) (uW (tV (aE (tH false) (aB 1) (aE fA (aB 2) (aB 0)))) (tV (aE (tH false) (aB 0) (aE fA (aB 2) (aB 3))))) (aB 0)))
   (iF (tV (aE tG (cB bY (aA (aB 4) aC)) (eC (.int 0))))
    (sX (rH 1 iK (bT (lJ (aA (aB 2) (aA (aB 3) aC))))))
    eJ)))
  (bD (aB 1))))
noncomputable def tU:gH:=cM 2 1
  (aJ (aT 1 (aI FW (aA (aB 0) aC)))
  (aJ (iF (FE (jL (tV (aI (LL.bR 6) (aA (aI A8 (aA (aB 0) aC)) (aA (cB cP (aA (aI rQ (aA (aB 0) aC)) aC)) aC))))) (jL (tV (aI (LL.bR 6) (aA (aB 1) (aA (cB cP (aA (aI QL (aA (aB 0) aC)) aC)) aC))))))
   (bD (eC (.bl false)))
   eJ)
  (bD (aE aBv (aI IV (aA (cB bY (aA (aB 0) aC)) (aA (aB 1) aC))) (aB 0)))))
noncomputable def rR:gH:=cM 3 1
  (aJ (aT 1 (aI LL.fG (aA (aB 0) (aA (eC (.int 0)) (aA (eC (.int 9)) (aA (eC (.int 100003)) aC))))))
  (aJ (aT 2 (aI LL.fG (aA (aB 0) (aA (eC (.int 2)) (aA (eC (.int 9)) (aA (eC (.int 300007)) aC))))))
  (bD (mR (aI tU (aA (aB 1) aC)) (mR (aI tU (aA (aB 2) aC)) (aI tU (aA (aB 1) aC)))))))
end K03
end
section
namespace K03
open PySem L3 L4 LL K45
section
variable {x:List (List Int)} (hx:Ord.Rows x)
include hx
end
noncomputable def ZM (x:List (List Int)) (p:Int×Int):Bool:=!(row x p.2).any fun c=>(row x c).contains p.1
structure Cl (x:List (List Int)) (P:List (Int×Int)) (b:Int) (u f:List Int):Prop where
 nd:u.Nodup
 sub:∀ a∈u,a∈row x b
 fr:∀ a∈f,a=b\/a∈u
 cl:∀ c,(c=b\/c∈u)->c∉f -> ∀ a,(a,c)∈P->a∈u
noncomputable abbrev T (x:List (List Int)):List (Int×Int):=srt (aCD x x.length)
noncomputable abbrev B (x:List (List Int)):List (Int×Int):=(T x).filter (ZM x)
end K03
end
section
namespace LL
open PySem L3 L4
noncomputable def iL:gH:=cM 5 3
  (aJ (iF (tV (aE geM (aB 0) (aE uX (eC (.int 10)) (eC (.int 18)))))
   (bD (aE iJ (aE tF (aB 0) (eC (.int 64))) (aB 1)))
   eJ)
  (aJ (aT 3 (eC (.int 0)))
  (aJ (dQ (aU (aA (eC (.int 20)) aC)) (j8 4)
   (aT 3 (aE bO (aE mulM (aB 3) (eC (.int 1000000007))) (aI LL.fE (aA (aB 0) (aA (aB 4) (aA (aB 2) aC)))))))
  (bD (aE iJ (aB 3) (aB 1))))))
theorem vO {i j:Int} {p q:Nat} (hp:p<=4000) (hq:q<=4000) (hi:i.natAbs<2 ^ p) (hj:j.natAbs<2 ^ q):mulM (.int i) (.int j)=some (.int (i*j)):=by
 have lg:∀ m r:Nat,m<2 ^ r->m.log2<r+1:=by
  intro m r hm
  by_cases z:m=0
  ·rw [z]; exact Nat.succ_pos r
  ·exact Nat.lt_succ_of_lt ((Nat.log2_lt z).mpr hm)
 have a:=lg _ _ hi
 have b:=lg _ _ hj
 have e:wJ i j=true:=by
  unfold wJ
  rw [decide_eq_true (show i.natAbs.log2+j.natAbs.log2<=134217700 by omega),Bool.or_true]
 unfold mulM p5
 exact if_pos e
theorem QM {i:Int} {j:Int} (ρ:cD) (h:(decide ((0:Int)<=j)&&decide (j.natAbs<=1000000)&&decide (i.natAbs<18446744073709551616))=true):aE uX (eC (.int i)) (eC (.int j)) ρ=some (.int (i ^ j.toNat)) :=
 bP rfl rfl (if_pos h)
theorem QN (c s:Int) {most:Int} (hm:0<most):∃ r,0<=r/\r<most/\iL [.int c,.int most,.int s]=.ok (.int r):=by
 have e18:∀ ρ,aE uX (eC (.int 10)) (eC (.int 18)) ρ=some (.int 1000000000000000000):=fun ρ=>by
  rw [QM ρ (by decide +kernel)]
  rfl
 unfold iL
 by_cases h:(1000000000000000000:Int)<=c
 ·refine ⟨c / 64 % most,Int.emod_nonneg _ (by omega),Int.emod_lt_of_pos _ hm,hJ rfl (FP (QA (DJ (bP (x:=.int c) (y:=.int 1000000000000000000) rfl (e18 _) rL) (by rw [decide_eq_true h]; rfl)) (iG (bP (x:=.int (c / 64)) (y:=.int most) (bP (x:=.int c) (y:=.int 64) rfl rfl (mB (by decide) (by decide))) rfl (eQ hm)))))⟩
 ·obtain ⟨_,e,x,v4,rfl⟩:Nx (dQ (aU (aA (eC (.int 20)) aC)) (j8 4)
   (aT 3 (aE bO (aE mulM (aB 3) (eC (.int 1000000007))) (aI LL.fE (aA (aB 0) (aA (aB 4) (aA (aB 2) aC)))))) [.ro (.int c),.ro (.int most),.ro (.int s),.ro (.int 0),.no])
   (fun ρ=>∃ x v4,ρ=[.ro (.int c),.ro (.int most),.ro (.int s),.ro (.int x),v4]):=by
   refine jM 20 (fun i ρ=>∃ x v4,ρ=[.ro (.int c),.ro (.int most),.ro (.int s),.ro (.int x),v4]) rfl (by decide) ⟨0,.no,rfl⟩ ?_ fun ρ h=>h
   rintro i _ hi ⟨x,v4,rfl⟩
   obtain ⟨r,_,er⟩:=FS c (i:Int) s (by omega) (by omega)
   exact ⟨_,rfl,_,fV (.int (x*1000000007+r)) (bP (x:=.int (x*1000000007)) (y:=.int r) (bP (x:=.int x) (y:=.int 1000000007) rfl rfl (DB (by decide))) (lM rfl rfl rfl er) fH) rfl,_,_,rfl⟩
  exact ⟨x % most,Int.emod_nonneg _ (by omega),Int.emod_lt_of_pos _ hm,hJ rfl (eB _ (xF (DJ (bP (x:=.int c) (y:=.int 1000000000000000000) rfl (e18 _) rL) (by rw [decide_eq_false h]; rfl)) rfl) (eB _ (fV (.int 0) rfl rfl) (eB _ e (iG (bP (x:=.int x) (y:=.int most) rfl rfl (eQ hm))))))⟩
noncomputable def at0 (fl:List Int) (a:Int):Int:=(fl[a.toNat]?).getD 0
theorem QO {fl:List Int} {a:Int} (h0:0<=a) (h1:a<(fl.length:Int)):fA (tupI fl) (.int a)=some (.int (at0 fl a)):=by
 obtain ⟨x,_,e,e2⟩:=DF h0 h1
 show FF (fl.map D.int) a=_
 rw [vK,e]
 unfold at0
 rw [e2]
 rfl
theorem mY {fl:List Int} {a:Int} (h0:0<=a) (h1:a<(fl.length:Int)):fA (aG fl) (.int a)=some (.int (at0 fl a)):=QO h0 h1
noncomputable def gD:gH:=cM 2 2
  (bD (cB cP (aA (cB nP (aA (aE bO (aB 0) (lJ (aA (aB 1) aC))) aC)) aC)))
noncomputable def eK:gH:=cM 3 2
  (aJ (aT 2 (bV 1 [1] (aU (aA (cB bY (aA (aB 0) aC)) aC)) (g1 0) (tV (aE (tH true) (aB 0) (aB 1))) (aB 0)))
  (bD (bV 1 [1,0] (cU (aB 2)) (g1 0) (tV (cB allM (aA (bV 1 [1] (cU (aE fA (aB 2) (aB 0))) (g1 0) cL (aE (tH false) (aB 0) (aB 1))) aC))) (aB 0))))
noncomputable def aN (x:List (List Int)) (a:List Int):List Int:=((aR 0 x.length).filter fun t=>!a.contains t).filter fun t=>(row x t).all fun l=>a.contains l
noncomputable def aK (a:List Int) (t:Int):List Int:=sortI (a++[t])
noncomputable def rdI (x:List (List Int)) (a:List Int):List (List Int):=(aN x a).map (aK a)
noncomputable def NF (x:List (List Int)) (a:List Int):Prop:=a.Nodup /\ ∀ t∈a,0<=t/\t<(x.length:Int)
theorem DN {ns:List Int} (h:ns.length<64):nP [.tup (ns.map D.int)]=some (.lst ((sortI ns).map D.int)):=by simp [nP,fR,h]
theorem NG {a:List Int} {t:Int} (h:a.length<=9):gD [tupI a,.int t]=.ok (tupI (aK a t)):=by
 unfold gD
 refine hJ rfl (iG (eX (x:=aG (aK a t)) (eX (x:=tupI (a++[t])) (bP (x:=tupI a) (y:=tupI [t]) rfl rfl ?_) ?_) rfl))
 ·unfold tupI
  rw [rM (by simp; omega),List.map_append]
 ·have:=DN (ns:=a++[t]) (by simp; omega)
  exact this
theorem FX {x:List (List Int)} {a:List Int} (hx:x.length<=9) (hr:∀ r∈x,r.length<=9):eK [aV x,tupI a]=.ok (aG (aN x a)):=by
 unfold eK aN
 have e1:bV 1 [1] (aU (aA (cB bY (aA (aB 0) aC)) aC)) (g1 0) (tV (aE (tH true) (aB 0) (aB 1))) (aB 0) (lI (eA 3 [aV x,tupI a]))=some (aG ((aR 0 x.length).filter fun t=>!a.contains t)):=by
  refine i8 ((aR 0 x.length).map D.int) (QF (eX rfl eD) (by omega)) (by rw [List.length_map,aO]; omega) ?_
  exact kZ D.int _ D.int (aR 0 x.length) fun t _=>⟨[some (.int t),some (tupI a)],rfl,DJ (bP (x:=.int t) (y:=tupI a) rfl rfl VN) rfl,fun _=>rfl⟩
 generalize hL:((aR 0 x.length).filter fun t=>!a.contains t)=L at e1
 have Lr:∀ t∈L,0<=t/\t<(x.length:Int):=fun t ht=>by
  rw [<- hL] at ht
  have:=bI.mp (List.mem_filter.mp ht).1
  omega
 have Ll:L.length<=9:=by
  rw [<- hL]
  have:=List.length_filter_le (fun t=>!a.contains t) (aR 0 x.length)
  rw [aO] at this
  omega
 refine hJ rfl (eB _ (fV (aG L) e1 rfl) (iG ?_))
 refine i8 (L.map D.int) rfl (by rw [List.length_map]; omega) ?_
 refine kZ D.int _ D.int L fun t ht=>⟨[some (.int t),some (tupI a),some (aV x)],rfl,?_,fun _=>rfl⟩
 obtain ⟨t0,t1⟩:=Lr t ht
 have rl:(row x t).length<=9:=by
  unfold row
  rw [List.getElem?_eq_getElem (by omega)]
  exact hr _ (List.getElem_mem _)
 refine DJ (d:=.bl ((row x t).all fun l=>a.contains l)) (eX (x:=.lst (((row x t).map fun l=>a.contains l).map D.bl)) ?_ ?_) rfl
 ·refine Eq.trans (i8 ((row x t).map D.int) ?_ (by rw [List.length_map]; omega) (fI D.int (fun l=>.bl (a.contains l)) (row x t) fun l _=>⟨[some (.int l),some (tupI a)],rfl,bP (x:=.int l) (y:=tupI a) rfl rfl ZL⟩)) (by rw [List.map_map]; rfl)
  unfold cU
  rw [bP (x:=aV x) (y:=.int t) (z:=some (tupI (row x t))) rfl rfl (QJ t0 t1)]
  rfl
 ·rw [DD,List.all_map]
  rfl
theorem eI {x:List (List Int)} {a:List Int} {t:Int} (h:t∈aN x a):(0<=t/\t<(x.length:Int))/\t∉a:=by
 unfold aN at h
 have h1:=(List.mem_filter.mp h).1
 have h2:=List.mem_filter.mp h1
 have:=bI.mp h2.1
 exact ⟨by omega,by simpa using h2.2⟩
theorem QP (n:Nat):(aR 0 n).Nodup:=by
 refine List.pairwise_iff_getElem.mpr fun i j hi hj hij=>?_
 have e1:=j9 (lo:=0) (n:=n) (i:=i) (by simpa [aO] using hi)
 have e2:=j9 (lo:=0) (n:=n) (i:=j) (by simpa [aO] using hj)
 rw [List.getElem?_eq_getElem hi] at e1
 rw [List.getElem?_eq_getElem hj] at e2
 have e1:=Option.some.inj e1
 have e2:=Option.some.inj e2
 omega
theorem jV {x:List (List Int)} {a:List Int} (h:NF x a):(aN x a).length+a.length<=x.length:=by
 have nd:(aN x a++a).Nodup:=by
  refine List.nodup_append.mpr ⟨?_,h.1,fun u hu v hv e=>(eI hu).2 (e▸hv)⟩
  unfold aN
  exact List.Pairwise.filter _ (List.Pairwise.filter _ (QP x.length))
 have:=Ord.gQ _ (aR 0 x.length) nd fun t ht=>bI.mpr (by
  rcases List.mem_append.1 ht with z | z
  ·have:=(eI z).1; omega
  ·have:=h.2 t z; omega)
 rwa [List.length_append,aO] at this
theorem YJ {x:List (List Int)} {a:List Int} (h:NF x a):(∀ b∈rdI x a,NF x b/\b.length=a.length+1)/\(rdI x a).length+a.length<=x.length:=by
 refine ⟨fun b hb=>?_,by unfold rdI; rw [List.length_map]; exact jV h⟩
 unfold rdI at hb
 obtain ⟨t,ht,rfl⟩:=List.mem_map.mp hb
 obtain ⟨hr,hn⟩:=eI ht
 have p:=sortI_perm (a++[t])
 refine ⟨⟨?_,fun u hu=>?_⟩,?_⟩
 ·unfold aK
  refine p.nodup_iff.mpr (List.nodup_append.mpr ⟨h.1,by simp,fun u hu v hv e=>?_⟩)
  rw [List.mem_singleton] at hv
  subst hv
  subst e
  exact hn hu
 ·unfold aK at hu
  rcases List.mem_append.1 (p.mem_iff.mp hu) with z | z
  ·exact h.2 u z
  ·rw [List.mem_singleton] at z
   subst z
   exact hr
 ·unfold aK
  rw [p.length_eq]
  simp
theorem VO {x:List (List Int)} {a:List Int} (h:NF x a):a.length<=x.length:=by
 have:=jV h
 omega
theorem vP {x:List (List Int)}:NF x []:=⟨List.nodup_nil,fun t ht=>by cases ht⟩
end LL
end
section
namespace L7
open PySem L3 L4 LL
section
variable (rd:List Int->List (List Int))
noncomputable def Wf:Nat->List Int->Int
 | 0,_=>1
 | m+1,a=>((rd a).map (Wf m)).sum
end
end L7
end
section
namespace K24
noncomputable def fact:Nat->Int
 | 0=>1
 | k+1=>fact k*(k+1)
noncomputable def ff (x:Int):Nat->Int
 | 0=>1
 | k+1=>ff x k*(x - k)
theorem mC:∀ k,0<fact k
 | 0=>by decide
 | k+1=>Int.mul_pos (mC k) (by omega)
theorem LG (x:Int):∀ k,ff (x+1) (k+1)=(x+1)*ff x k
 | 0=>by simp [ff]
 | k+1=>by
  rw [show ff (x+1) (k+1+1)=ff (x+1) (k+1)*(x+1 - ((k+1:Nat):Int)) from rfl,LG x k,show ff x (k+1)=ff x k*(x - k) from rfl,Int.mul_assoc]
  congr 2
  omega
theorem DO (x:Int) (k:Nat):ff (x+1) (k+1)=ff x (k+1)+(k+1)*ff x k:=by
 rw [LG,show ff x (k+1)=ff x k*(x - k) from rfl,Int.mul_comm (ff x k),<- Int.add_mul]
 congr 1
 omega
theorem LH:∀ k,ff 0 (k+1)=0
 | 0=>by simp [ff]
 | k+1=>by rw [show ff 0 (k+1+1)=ff 0 (k+1)*_ from rfl,LH k,Int.zero_mul]
theorem QQ:∀ (k:Nat) (x:Int),fact k ∣ ff x k
 | 0,x=>by simp [fact,ff]
 | k+1,x=>by
  have st:∀ y:Int,fact (k+1) ∣ (k+1)*ff y k:=fun y=>by
   obtain ⟨c,e⟩:=QQ k y
   exact ⟨c,by rw [e,show fact (k+1)=fact k*(k+1) from rfl,<- Int.mul_assoc,Int.mul_comm (k+1:Int)]⟩
  have up:∀ y:Int,fact (k+1) ∣ ff y (k+1)->fact (k+1) ∣ ff (y+1) (k+1):=fun y h=>by rw [DO]; exact Int.dvd_add h (st y)
  have dn:∀ y:Int,fact (k+1) ∣ ff (y+1) (k+1)->fact (k+1) ∣ ff y (k+1):=fun y h=>by rw [DO] at h; exact (Int.dvd_add_left (st y)).mp h
  have h0:fact (k+1) ∣ ff 0 (k+1):=by rw [LH]; exact Int.dvd_zero _
  have pos:∀ n:Nat,fact (k+1) ∣ ff (n:Int) (k+1):=fun n=>by
   induction n with
   | zero=>exact h0
   | succ n ih=>exact up _ ih
  have neg:∀ n:Nat,fact (k+1) ∣ ff (-(n:Int)) (k+1):=fun n=>by
   induction n with
   | zero=>exact h0
   | succ n ih=>exact dn _ (by rw [show -((n+1:Nat):Int)+1=-(n:Int) by omega]; exact ih)
  rcases Int.le_total 0 x with hx | hx
  ·have:=pos x.toNat; rwa [show ((x.toNat:Nat):Int)=x by omega] at this
  ·have:=neg (-x).toNat; rwa [show -(((-x).toNat:Nat):Int)=x by omega] at this
--CUT
noncomputable def C (x:Int) (m:Nat):Int:=ff x m / fact m
theorem A9 (x:Int) (m:Nat):C x m*fact m=ff x m:=Int.ediv_mul_cancel (QQ m x)
theorem aCF {x c:Int} {m:Nat} (h:c*fact m=ff x m):c=C x m:=Int.eq_of_mul_eq_mul_right (Int.ne_of_gt (mC m)) (h.trans (A9 x m).symm)
theorem xR (x:Int):C x 0=1:=rfl
theorem xS (x:Int) (m:Nat):C (x+1) (m+1)=C x (m+1)+C x m:=by
 refine (aCF ?_).symm
 rw [Int.add_mul,A9,show fact (m+1)=fact m*(m+1) from rfl,<- Int.mul_assoc,A9,DO,Int.mul_comm (ff x m)]
theorem LI {x:Nat}:∀ {m:Nat},x<m->ff (x:Int) m=0
 | m+1,h=>by
  show ff (x:Int) m*((x:Int) - (m:Int))=0
  by_cases e:x=m
  ·subst e; rw [Int.sub_self,Int.mul_zero]
  ·rw [LI (by omega),Int.zero_mul]
theorem IW {x:Int} {m:Nat} (h0:0<=x) (h:x<m):C x m=0:=by
 refine (aCF ?_).symm
 obtain ⟨n,rfl⟩:∃ n:Nat,x=(n:Int):=⟨x.toNat,by omega⟩
 rw [LI (by omega),Int.zero_mul]
noncomputable def Df (f:Int->Int):Int->Int:=fun x=>f (x+1) - f x
noncomputable def It (j:Nat) (f:Int->Int):Int->Int:=match j with
 | 0=>f
 | j+1=>It j (Df f)
theorem NH {f g:Int->Int} (h:∀ x,Df f x=Df g x) (h0:f 0=g 0):∀ x,f x=g x:=by
 have up:∀ n:Nat,f (n:Int)=g n:=fun n=>by
  induction n with
  | zero=>exact h0
  | succ n ih =>
   have:=h n
   unfold Df at this
   rw [show ((n+1:Nat):Int)=(n:Int)+1 from rfl]
   omega
 have dn:∀ n:Nat,f (-(n:Int))=g (-(n:Int)):=fun n=>by
  induction n with
  | zero=>exact h0
  | succ n ih =>
   have:=h (-((n+1:Nat):Int))
   unfold Df at this
   rw [show -((n+1:Nat):Int)+1=-(n:Int) by omega] at this
   omega
 intro x
 rcases Int.le_total 0 x with hx | hx
 ·have:=up x.toNat; rwa [show ((x.toNat:Nat):Int)=x by omega] at this
 ·have:=dn (-x).toNat; rwa [show -(((-x).toNat:Nat):Int)=x by omega] at this
noncomputable def SV (j:Nat):List Int->Int->Int
 | [],_=>0
 | s::l,k=>s*C k j+SV (j+1) l k
theorem LJ:∀ (l:List Int) (j:Nat) (x:Int),Df (SV (j+1) l) x=SV j l x
 | [],j,x=>rfl
 | s::l,j,x=>by
  have ih:SV (j+2) l (x+1) - SV (j+2) l x=SV (j+1) l x:=LJ l (j+1) x
  show s*C (x+1) (j+1)+SV (j+2) l (x+1) - (s*C x (j+1)+SV (j+2) l x)=s*C x j+SV (j+1) l x
  rw [xS,Int.mul_add]
  omega
theorem FY (s:Int) (l:List Int) (x:Int):Df (SV 0 (s::l)) x=SV 0 l x:=by
 have:SV 1 l (x+1) - SV 1 l x=SV 0 l x:=LJ l 0 x
 show s*C (x+1) 0+SV 1 l (x+1) - (s*C x 0+SV 1 l x)=_
 rw [xR,xR]
 omega
theorem QR:∀ (l:List Int) (j:Nat),SV (j+1) l 0=0
 | [],j=>rfl
 | s::l,j=>by
  show s*C 0 (j+1)+SV (j+2) l 0=0
  rw [IW (by omega) (by omega),QR l (j+1)]
  omega
theorem FZ (s:Int) (l:List Int):SV 0 (s::l) 0=s:=by
 show s*C 0 0+SV 1 l 0=s
 rw [QR,xR]
 omega
noncomputable def diffs:List Int->List Int
 | a::b::l=>(b - a)::diffs (b::l)
 | _=>[]
theorem h9:∀ l:List Int,(diffs l).length=l.length - 1
 | []=>rfl
 | [_]=>rfl
 | a::b::l=>by rw [diffs,List.length_cons,h9 (b::l)]; simp
noncomputable def fd (l:List Int):List Int:=match l with
 | []=>[]
 | a::r=>a::fd (diffs (a::r))
termination_by l.length
decreasing_by rw [h9]; simp
theorem tW:fd []=[]:=by rw [fd]
theorem vQ (a:Int) (r:List Int):fd (a::r)=a::fd (diffs (a::r)):=by rw [fd]
noncomputable def vals (f:Int->Int):Nat->Int->List Int
 | 0,_=>[]
 | n+1,x=>f x::vals f n (x+1)
theorem xT (f:Int->Int):∀ (n:Nat) (x:Int),diffs (vals f (n+1) x)=vals (Df f) n x
 | 0,x=>rfl
 | n+1,x=>by
  have ih:=xT f n (x+1)
  show (f (x+1) - f x)::diffs (vals f (n+1) (x+1))=(f (x+1) - f x)::vals (Df f) n (x+1)
  rw [ih]
theorem DP (f:Int->Int) (n:Nat):fd (vals f (n+1) 0)=f 0::fd (vals (Df f) n 0):=by
 show fd (f 0::vals f n (0+1))=_
 rw [vQ]
 congr 1
 exact congrArg fd (xT f n 0)
theorem xU {f g:Int->Int} (h:∀ x,f x=g x) (n:Nat) (x:Int):vals f n x=vals g n x:=by rw [show f=g from funext h]
theorem YK:∀ s:List Int,fd (vals (SV 0 s) s.length 0)=s
 | []=>tW
 | a::l=>by
  rw [List.length_cons,DP,FZ,xU (FY a l),YK l]
theorem IX:∀ (n:Nat) (f:Int->Int),(∀ x,It n f x=0) -> ∀ k,SV 0 (fd (vals f n 0)) k=f k
 | 0,f,h,k=>by
  show SV 0 (fd []) k=f k
  rw [tW]
  exact (h k).symm
 | n+1,f,h,k=>by
  rw [DP]
  refine NH (fun x=>?_) (FZ _ _) k
  rw [FY]
  exact IX n (Df f) h x
noncomputable def DV (n:Nat) (d:Int):List Int->Int->Int
 | [],_=>0
 | w::l,k=>w*C (k+n - 1 - d) n+DV n (d+1) l k
theorem QS (f g:Int->Int):∀ (j:Nat),It j (fun x=>f x+g x)=fun x=>It j f x+It j g x:=by
 intro j
 induction j generalizing f g with
 | zero=>rfl
 | succ j ih =>
  show It j (Df fun x=>f x+g x)=fun x=>It j (Df f) x+It j (Df g) x
  rw [<- ih,show (Df fun x=>f x+g x)=fun x=>Df f x+Df g x from funext fun x=>by show f (x+1)+g (x+1) - (f x+g x)=f (x+1) - f x+(g (x+1) - g x); omega]
theorem ZN (w:Int) (f:Int->Int):∀ (j:Nat),It j (fun x=>w*f x)=fun x=>w*It j f x:=by
 intro j
 induction j generalizing f with
 | zero=>rfl
 | succ j ih =>
  show It j (Df fun x=>w*f x)=fun x=>w*It j (Df f) x
  rw [<- ih,show (Df fun x=>w*f x)=fun x=>w*Df f x from funext fun x=>by unfold Df; rw [Int.mul_sub]]
theorem vR:∀ j,It j (fun _=>0)=fun _=>0
 | 0=>rfl
 | j+1=>by
  show It j (Df fun _=>0)=_
  rw [show (Df fun _=>0)=fun _=>0 from rfl,vR j]
theorem aCG (a:Int):∀ m,It (m+1) (fun x=>C (x+a) m)=fun _=>0
 | 0=>rfl
 | m+1=>by
  show It (m+1) (Df fun x=>C (x+a) (m+1))=_
  rw [show (Df fun x=>C (x+a) (m+1))=fun x=>C (x+a) m from funext fun x=>by
   show C (x+1+a) (m+1) - C (x+a) (m+1)=C (x+a) m
   rw [show x+1+a=(x+a)+1 by omega,xS]
   omega]
  exact aCG a m
theorem vS (n:Nat):∀ (l:List Int) (d:Int),It (n+1) (DV n d l)=fun _=>0
 | [],d=>vR _
 | w::l,d=>by
  show It (n+1) (fun k=>w*C (k+n - 1 - d) n+DV n (d+1) l k)=_
  rw [QS,ZN,vS n l,show (fun k=>C (k+n - 1 - d) n)=fun k=>C (k+(n - 1 - d)) n from funext fun k=>by rw [show k+(n:Int) - 1 - d=k+(n - 1 - d) by omega],aCG]
  funext x
  simp
theorem BA {n:Nat} {k:Int}:∀ (a b:List Int) (d:Int),DV n d (a++b) k=DV n d a k+DV n (d+a.length) b k
 | [],b,d=>by simp [DV]
 | w::a,b,d=>by
  show w*C (k+n - 1 - d) n+DV n (d+1) (a++b) k=w*C (k+n - 1 - d) n+DV n (d+1) a k+DV n (d+(a.length+1:Nat)) b k
  rw [BA a b (d+1),show d+1+(a.length:Int)=d+(a.length+1:Nat) by omega]
  omega
theorem BB:∀ (n:Nat) (l:List Int),l.length=n->(fd l).length=n
 | 0,l,h=>by rw [List.length_eq_zero_iff.mp h,tW]; rfl
 | n+1,[],h=>by simp at h
 | n+1,a::r,h=>by rw [vQ,List.length_cons,BB n _ (by rw [h9,h]; rfl)]
theorem lA (f:Int->Int):∀ n x,(vals f n x).length=n
 | 0,_=>rfl
 | n+1,x=>by rw [vals,List.length_cons,lA f n]
theorem LK {f g:Int->Int}:∀ (n:Nat) (x:Int),(∀ j:Nat,j<n->f (x+j)=g (x+j))->vals f n x=vals g n x
 | 0,_,_=>rfl
 | n+1,x,h=>by
  have e:=h 0 (by omega)
  rw [show x+((0:Nat):Int)=x by omega] at e
  have r:vals f n (x+1)=vals g n (x+1):=LK n (x+1) fun j hj=>by
   have:=h (j+1) (by omega)
   rwa [show x+((j+1:Nat):Int)=x+1+(j:Int) by omega] at this
  rw [vals,vals,e,r]
noncomputable def Bg (b:Nat) (x:Int):Prop:=x.natAbs<2 ^ b
theorem Bg.mono {a b:Nat} {x:Int} (h:Bg a x) (hab:a<=b):Bg b x:=Nat.lt_of_lt_of_le h (Nat.pow_le_pow_right (by omega) hab)
theorem Bg.mul {a b:Nat} {x y:Int} (h:Bg a x) (g:Bg b y):Bg (a+b) (x*y):=by
 unfold Bg at *
 rw [Nat.pow_add,Int.natAbs_mul]
 exact Nat.mul_lt_mul_of_lt_of_lt h g
theorem Bg.add {a:Nat} {x y:Int} (h:Bg a x) (g:Bg a y):Bg (a+1) (x+y):=by
 unfold Bg at *
 rw [Nat.pow_succ]
 generalize 2 ^ a=z at *
 omega
theorem Bg.sub {a:Nat} {x y:Int} (h:Bg a x) (g:Bg a y):Bg (a+1) (x - y):=by
 unfold Bg at *
 rw [Nat.pow_succ]
 generalize 2 ^ a=z at *
 omega
theorem Bg.zero {a:Nat}:Bg a 0:=Nat.two_pow_pos a
theorem IY {a b n:Nat} {k:Int} (hC:∀ d:Nat,d<20->Bg b (C (k+n - 1 - d) n)):∀ (l:List Int) (d:Nat),d+l.length<=20->(∀ x∈l,Bg a x)->Bg (a+b+l.length) (DV n d l k)
 | [],j,_,_=>Bg.zero
 | s::l,j,h,hs=>by
  rw [List.length_cons] at h ⊢
  have h1:=(hs s List.mem_cons_self).mul (hC j (by omega))
  have h2:=IY hC l (j+1) (by omega) fun x hx=>hs x (List.mem_cons_of_mem _ hx)
  exact ((h1.mono (Nat.le_add_right _ l.length)).add h2).mono (by omega)
theorem BC {a:Nat}:∀ l:List Int,(∀ x∈l,Bg a x) -> ∀ x∈diffs l,Bg (a+1) x
 | [],_,x,hx=>nomatch hx
 | [_],_,x,hx=>nomatch hx
 | u::v::l,h,x,hx=>by
  rw [diffs] at hx
  rcases List.mem_cons.mp hx with rfl | hm
  ·exact (h v (by simp)).sub (h u (by simp))
  ·exact BC (v::l) (fun y hy=>h y (List.mem_cons_of_mem _ hy)) x hm
theorem QT:∀ (n a:Nat) (l:List Int),l.length=n->(∀ x∈l,Bg a x) -> ∀ x∈fd l,Bg (a+n) x
 | 0,a,l,h,hs,x,hx=>by rw [List.length_eq_zero_iff.mp h,tW] at hx; nomatch hx
 | n+1,a,[],h,hs,x,hx=>by simp at h
 | n+1,a,u::r,h,hs,x,hx=>by
  rw [vQ] at hx
  rcases List.mem_cons.mp hx with rfl | hm
  ·exact (hs x (by simp)).mono (by omega)
  ·exact (QT n (a+1) _ (by rw [h9,h]; rfl) (BC _ hs) x hm).mono (by omega)
end K24
end
section
namespace LL
open PySem L3 L4
noncomputable def jQ:gH:=cM 2 2
  (bD (bV 2 [] (uI (aA (aB 0) (aA (aB 1) aC))) (g2 0 1) cL (aE bO (aB 0) (aB 1))))
noncomputable def bU:gH:=cM 1 1
  (bD (aE bO (eW (aA (eC (.int 0)) aC)) (VA (aB 0) U9 (oE (CZ (eC (.int 1)))))))
noncomputable def bH:Nat->VC
 | 0=>fun _ _=>.no
 | n+1=>runM 8 4
  ((aJ (aT 4 (lJ (aA (aB 1) (aA (aB 2) aC))))
  (iF (tV (aE (NB true) (aB 4) (aB 3)))
   (aJ (hW 5 (aE repLM (eW (aA (eC (.int 0)) aC)) (cB p6 (aA (cB bY (aA (aB 0) aC)) (aA (eC (.int 1)) aC)))))
   (aJ (iF (tV (aE tG (cB bY (aA (aB 1) aC)) (cB bY (aA (aB 0) aC))))
    (uY 5 (bT (eC (.int 1))) (eC (.int 0)))
    eJ)
   (aJ (P7 5 (dQ (cU (aI LL.eK (aA (aB 0) (aA (aB 1) aC)))) (j8 6)
    (aJ (tJ 7 (bH n) (aA (aB 0) (aA (aI LL.gD (aA (aB 1) (aA (aB 6) aC))) (aA (aB 6) aC))) 3)
    (aT 5 (aI LL.jQ (aA (aB 5) (aA (U5 (tV (aE AG (aB 2) (aB 6))) (aI LL.bU (aA (aB 7) aC)) (aB 7)) aC)))))))
   (A2 3 (bT (aB 5)) (aB 4)))))
   eJ)))
  (aB 4)
noncomputable def gX:gH:=cM 2 1
  (aJ (YG 1)
  (aJ (VF (LL.bH 11) (aA (aB 0) (aA (lJ aC) (aA (eC (.int 0)) aC))) 1)
  (bD (aB 1))))
noncomputable def aS:gH:=cM 1 1
  (bD (cB cP (aA (aE aBx (aI LL.gX (aA (aB 0) aC)) (lJ (aA (lJ aC) (aA (eC (.int 0)) aC)))) aC)))
noncomputable def mD:gH:=cM 4 2
  (aJ (aT 2 (eC (.int 1)))
  (aJ (dQ (aU (aA (aB 1) aC)) (j8 3)
   (aT 2 (aE tF (aE mulM (aB 2) (aE dZ (aB 0) (aB 3))) (aE bO (aB 3) (eC (.int 1))))))
  (bD (aB 2))))
noncomputable def bX:gH:=cM 3 3
  (bD (cB C0 (aA (bV 2 [1,2] (rK (aA (aB 0) aC)) (g2 0 1) cL (aE mulM (aB 1) (aI LL.mD (aA (aE dZ (aE dZ (aE bO (aB 3) (aB 2)) (eC (.int 1))) (aB 0)) (aA (aB 2) aC))))) aC)))
noncomputable def gR:gH:=cM 2 2
  (bD (aI LL.bX (aA (aI LL.aS (aA (aB 0) aC)) (aA (cB bY (aA (aB 0) aC)) (aA (aB 1) aC)))))
noncomputable def AI:gH:=cM 2 2
  (bD (bV 2 [1] (uI (aA (aE bO (aB 0) (eW (aA (eC (.int 0)) aC))) (aA (aE bO (eW (aA (eC (.int 0)) aC)) (aB 0)) aC))) (g2 0 1) cL (aE bO (aE mulM (aB 2) (aB 0)) (aB 1))))
noncomputable def qO:gH:=cM 5 3
  (aJ (aT 3 (eW (aA (aB 0) aC)))
  (aJ (dQ (aU (aA (aB 2) aC)) (j8 4)
   (aT 3 (aI LL.AI (aA (aB 3) (aA (aE dZ (aB 1) (aB 4)) aC)))))
  (bD (aB 3))))
noncomputable def DQ:gH:=cM 5 1
  (aJ (aT 1 (cB bY (aA (aB 0) aC)))
  (aJ (aT 2 (aE repLM (eW (aA (eC (.int 0)) aC)) (aE bO (aB 1) (eC (.int 1)))))
  (aJ (dQ (rK (aA (aI LL.aS (aA (aB 0) aC)) aC)) (ZI 3 4)
   (aT 2 (aI LL.jQ (aA (aB 2) (aA (aI LL.qO (aA (aB 4) (aA (aE dZ (aE dZ (aB 1) (eC (.int 1))) (aB 3)) (aA (aB 1) aC)))) aC)))))
  (bD (cB cP (aA (aB 2) aC))))))
noncomputable def dF:gH:=cM 3 1
  (aJ (hW 1 (eW aC))
  (aJ (aT 2 (aB 0))
  (aJ (IP C2 (tV (aB 2))
   (aJ (sX (rH 1 iK (bT (aE fA (aB 2) (eC (.int 0))))))
   (aT 2 (bV 2 [] (uI (aA (aB 2) (aA (VA (aB 2) (oE (eC (.int 1))) U9) aC))) (g2 0 1) cL (aE dZ (aB 1) (aB 0))))))
  (bD (cB cP (aA (aB 1) aC))))))
noncomputable def cN:gH:=cM 3 1
  (aJ (aT 1 (cB bY (aA (aB 0) aC)))
  (aJ (aT 2 (aI LL.aS (aA (aB 0) aC)))
  (bD (aI LL.dF (aA (bV 1 [2,1] (aU (aA (aE bO (aB 1) (eC (.int 1))) aC)) (g1 0) cL (aI LL.bX (aA (aB 1) (aA (aB 2) (aA (aB 0) aC))))) aC)))))
noncomputable def dM:gH:=cM 5 2
  (aJ (aT 2 (eC (.int 1)))
  (aJ (aT 3 (eC (.int 1)))
  (aJ (dQ (aU (aA (aB 1) aC)) (j8 4)
   (aJ (aT 2 (aE mulM (aB 2) (aE dZ (aB 0) (aB 4))))
   (aT 3 (aE mulM (aB 3) (aE bO (aB 4) (eC (.int 1)))))))
  (bD (aE tF (aB 2) (aB 3))))))
noncomputable def tX:gH:=cM 2 2
  (aJ (iF (FE (jL (tV (j5 "tuple" (aB 0)))) (tV (aE U0 (cB bY (aA (aB 0) aC)) (aB 1))))
   (bD (eC (.bl false)))
   eJ)
  (bD (cB allM (aA (bV 1 [] (cU (aB 0)) (g1 0) cL (mR (j5 "int" (aB 0)) (AH (j5 "bool" (aB 0))))) aC))))
noncomputable def NI:gH:=cM 5 3
  (aJ (aT 3 (aI LL.fF (aA (aI LL.fD (aA (aB 0) (aA (aB 1) aC))) (aA (eC (.int 3)) (aA (aB 2) aC)))))
  (aJ (iF (tV (aE tG (aE iJ (aE fA (aB 3) (eC (.int 0))) (eC (.int 3))) (eC (.int 0))))
   (bD (aE dZ (aE iJ (aE fA (aB 3) (eC (.int 1))) (eC (.int 25))) (eC (.int 12))))
   eJ)
  (aJ (aT 4 (aI LL.iL (aA (aI LL.fD (aA (aB 0) (aA (aE bO (aB 1) (eC (.int 1))) aC))) (aA (aE fA (eW (aA (aE uX (eC (.int 10)) (eC (.int 4))) (aA (aE uX (eC (.int 10)) (eC (.int 20))) (aA (aE uX (eC (.int 10)) (eC (.int 59))) aC)))) (aE iJ (aE fA (aB 3) (eC (.int 1))) (eC (.int 3)))) (aA (aE bO (aB 2) (eC (.int 70001))) aC)))))
  (bD (aE mulM (aB 4) (aE dZ (eC (.int 1)) (aE mulM (eC (.int 2)) (aE iJ (aE fA (aB 3) (eC (.int 2))) (eC (.int 2))))))))))
noncomputable def gS:gH:=cM 6 1
  (aJ (aT 1 (eW (aA (lJ aC) aC)))
  (aJ (dQ (aU (aA (cB bY (aA (aB 0) aC)) aC)) (j8 2)
   (aJ (hW 3 (eW aC))
   (aJ (dQ (cU (aB 1)) (j8 4)
    (dQ (aU (aA (cB bY (aA (aB 0) aC)) aC)) (j8 5)
     (iF (uW (tV (aE (tH true) (aB 5) (aB 4))) (tV (cB allM (aA (bV 1 [4] (cU (aE fA (aB 0) (aB 5))) (g1 0) cL (aE (tH false) (aB 0) (aB 1))) aC))))
      (sX (rH 3 iK (bT (aE bO (aB 4) (lJ (aA (aB 5) aC))))))
      eJ)))
   (P7 3 (aT 1 (aB 3))))))
  (bD (aB 1))))
theorem F0 {ks:List wU} {k k':wU} {v:D}:∀ {ks:List wU} {ds:List D},ks.length=ds.length->cV (gC ks ds k v).1 (gC ks ds k v).2 k' = if k' = k then some v else cV ks ds k':=by
 intro ks ds hl
 unfold gC
 split
 ·rename_i hc
  have go:∀ (ks:List wU) (ds:List D),ks.length=ds.length->cV ks ((ks.zip ds).map fun p=>if p.1=k then v else p.2) k' = if k' = k then (cV ks ds k').map (fun _=>v) else cV ks ds k':=by
   intro ks
   induction ks with
   | nil=>intro ds _; simp [cV]
   | cons q ks ih =>
    intro ds hl
    cases ds with
    | nil=>simp at hl
    | cons d ds =>
     have:=ih ds (by simpa using hl)
     unfold cV at this ⊢
     by_cases h1:q=k'
     ·subst h1
      by_cases h2:q=k
      ·simp [h2]
      ·simp [h2]
     ·simpa [h1] using this
  have hin:k∈ks:=by
   rw [List.any_eq_true] at hc
   obtain ⟨q,hq,e⟩:=hc
   rw [<- of_decide_eq_true e]
   exact hq
  have some_of:∀ (ks:List wU) (ds:List D),ks.length=ds.length->k∈ks -> ∃ d,cV ks ds k=some d:=by
   intro ks
   induction ks with
   | nil=>intro ds _ h; cases h
   | cons q ks ih =>
    intro ds hl h
    cases ds with
    | nil=>simp at hl
    | cons d ds =>
     by_cases h1:q=k
     ·exact ⟨d,by simp [cV,h1]⟩
     ·obtain ⟨d',e⟩:=ih ds (by simpa using hl) ((List.mem_cons.1 h).resolve_left (Ne.symm h1))
      exact ⟨d',by unfold cV at e ⊢; simpa [h1] using e⟩
  rw [go ks ds hl]
  by_cases h:k' = k
  ·subst h
   obtain ⟨d,e⟩:=some_of ks ds hl hin
   rw [e]
   simp
  ·rw [if_neg h,if_neg h]
 ·rename_i hc
  have hn:k∉ks:=fun h=>hc (List.any_eq_true.2 ⟨k,h,by simp⟩)
  unfold cV
  dsimp only
  rw [List.zip_append hl,List.find?_append]
  by_cases h:k' = k
  ·subst h
   have:((ks.zip ds).find? fun p=>decide (p.1=k'))=none:=by
    rw [List.find?_eq_none]
    intro p hp
    have:=List.of_mem_zip hp
    simp only [decide_eq_true_eq]
    exact fun e=>hn (e▸this.1)
   rw [this]
   simp
  ·rw [if_neg h]
   have:([k].zip [v]).find? (fun p=>decide (p.1=k'))=none:=by simp [Ne.symm h]
   rw [this,Option.or_none]
theorem LM {ks:List wU} {ds:List D} {k:wU} {v:D} (h:ks.length=ds.length):(gC ks ds k v).1.length=(gC ks ds k v).2.length/\(gC ks ds k v).1.length<=ks.length+1:=by
 unfold gC
 split
 ·simp [h]
 ·simp [h]
theorem NJ {ks:List wU} {ds:List D} {k:wU} {v:D} (h:∀ q∈ks,q.isLeft=false) (hk:k.isLeft=false):∀ q∈(gC ks ds k v).1,q.isLeft=false:=by
 unfold gC
 split
 ·exact h
 ·intro q hq
  rcases List.mem_append.1 hq with z | z
  ·exact h q z
  ·rw [List.mem_singleton.1 z]; exact hk
theorem mZ {ks:List wU} {k:wU} (h:∀ q∈ks,q.isLeft=false) (hk:k.isLeft=false):kindB ks k=true:=by
 unfold kindB
 rw [List.all_eq_true]
 intro q hq
 rw [h q hq,hk]
 rfl
theorem BD:∀ a:List Int,A1 (a.map D.int)=some (a.map Sum.inl)
 | []=>rfl
 | x::a=>by rw [List.map_cons,A1,BD a]; rfl
noncomputable def kS (a:List Int) (l:Int):wU:=.inr [.inr (a.map Sum.inl),.inl (.inl l)]
theorem LN (a:List Int) (l:Int):tI (.tup [tupI a,.int l])=some (kS a l):=by
 have e:P8 (tupI a)=some (.inr (a.map Sum.inl)):=by
  show (A1 (a.map D.int)).map Sum.inr=_
  rw [BD]
  rfl
 show (wV [tupI a,.int l]).map Sum.inr=_
 unfold wV
 rw [e]
 rfl
theorem LO:∀ {a b:List Int},a.map (Sum.inl:Int->IQ)=b.map Sum.inl->a=b
 | [],[],_=>rfl
 | [],_::_,h=>by simp at h
 | _::_,[],h=>by simp at h
 | x::a,y::b,h=>by
  simp only [List.map_cons,List.cons.injEq,Sum.inl.injEq] at h
  rw [h.1,LO h.2]
theorem ZO {a b:List Int} {l m:Int} (h:kS a l=kS b m):a=b/\l=m:=by
 unfold kS at h
 simp only [Sum.inr.injEq,List.cons.injEq,Sum.inl.injEq,and_true] at h
 exact ⟨LO h.1,h.2⟩
noncomputable def gT (a b:List Int):List Int:=(a.zip b).map fun p=>p.1+p.2
noncomputable def kD (l:List Int):List Int:=0::l.dropLast
noncomputable def xV (n:Nat):List Int:=1::List.replicate (max n 1 - 1) 0
noncomputable def xW (n:Nat):List Int:=List.replicate (max n 1) 0
section
variable (x:List (List Int))
noncomputable def Sh:Nat->List Int->Int->List Int
 | 0,_,_=>xV x.length
 | m+1,a,l=>(aN x a).foldl (fun acc t=>gT acc (if t<l then kD (Sh m (aK a t) t) else Sh m (aK a t) t)) (xW x.length)
end
theorem QU {a b:List Int} (h:a.length<=1000):jQ [aG a,aG b]=.ok (aG (gT a b)):=by
 unfold jQ gT
 refine hJ rfl (iG (i8 ((a.zip b).map fun p=>D.tup [.int p.1,.int p.2]) ?_ ?_ ?_))
 ·unfold uI
  rw [args2 (x:=aG a) (y:=aG b) rfl rfl]
  show some (((a.map D.int).zip (b.map D.int)).map _)=_
  rw [List.zip_map,List.map_map]
  rfl
 ·rw [List.length_map,List.length_zip]; omega
 ·rw [fI (fun p:Int×Int=>D.tup [.int p.1,.int p.2]) (fun p=>.int (p.1+p.2)) (a.zip b) fun p _=>⟨[some (.int p.1),some (.int p.2)],rfl,rfl⟩,List.map_map]
  rfl
theorem rV {a:List Int} (h0:1<=a.length) (h:a.length<=1000):bU [aG a]=.ok (aG (kD a)):=by
 unfold bU
 refine hJ rfl (iG (bP (x:=aG [0]) (y:=aG a.dropLast) rfl ?_ ?_))
 ·show some (D.lst (NA (a.map D.int) none (some (-1))))=_
  unfold aG NA P2
  rw [List.length_map]
  simp only [Nat.sub_zero,List.drop_zero]
  rw [if_pos (by decide),show ((-1:Int)+(a.length:Int)).toNat=a.length - 1 by omega,<- List.map_take,List.dropLast_eq_take]
 ·show (if _ then _ else _)=_
  rw [if_pos (by simp [tD]; omega)]
  rfl
theorem eF {a b:List Int} (h:a.length=b.length):(gT a b).length=a.length:=by unfold gT; simp [h]
theorem lB {a:List Int} (h:1<=a.length):(kD a).length=a.length:=by unfold kD; simp; omega
theorem kE (n:Nat):(xW n).length=max n 1:=by simp [xW]
theorem GA (n:Nat):(xV n).length=max n 1:=by simp [xV]; omega
theorem iM (x:List (List Int)):∀ (m:Nat) (a:List Int) (l:Int),(Sh x m a l).length=max x.length 1
 | 0,a,l=>GA _
 | m+1,a,l=>by
  unfold Sh
  have go:∀ (ts:List Int) (acc:List Int),acc.length=max x.length 1->(ts.foldl (fun acc t=>gT acc (if t<l then kD (Sh x m (aK a t) t) else Sh x m (aK a t) t)) acc).length=max x.length 1:=by
   intro ts
   induction ts with
   | nil=>intro acc h; exact h
   | cons t ts ih =>
    intro acc h
    rw [List.foldl_cons]
    refine ih _ ?_
    rw [eF]
    ·exact h
    ·rw [h]
     have:=iM x m (aK a t) t
     split
     ·rw [lB (by omega)]; exact this.symm
     ·exact this.symm
  exact go _ _ (kE _)
noncomputable def most:Nat->Nat
 | 0=>1
 | m+1=>1+(m+1)*most m
noncomputable def jO (x:List (List Int)) (kd:KD):Prop:=kd.1.length=kd.2.length/\(∀ q∈kd.1,q.isLeft=false) /\ ∀ a l d,cV kd.1 kd.2 (kS a l)=some d->d=aG (Sh x (x.length - a.length) a l)
theorem jO.put {x:List (List Int)} {kd:KD} (h:jO x kd) (a:List Int) (l:Int):jO x (gC kd.1 kd.2 (kS a l) (aG (Sh x (x.length - a.length) a l))):=by
 refine ⟨(LM h.1).1,NJ h.2.1 rfl,fun b m d e=>?_⟩
 rw [F0 (ks:=[]) h.1] at e
 split at e
 ·rename_i hk
  obtain ⟨rfl,rfl⟩:=ZO hk
  exact (Option.some.inj e).symm
 ·exact h.2.2 b m d e
noncomputable def p8 (x:List (List Int)) (a:List Int) (l:Int) (q:Nat->Obj->Prop) (kd:KD) (s v6 v7:Sv):bF:=[.ro (aV x),.ro (tupI a),.ro (.int l),.ow (.fC q kd.1 kd.2),.ro (.tup [tupI a,.int l]),s,v6,v7]
theorem ZP {x:List (List Int)} {a:List Int} {l:Int} {q:Nat->Obj->Prop} {kd:KD} {s v6 v7:Sv} (h:jO x kd):tV (aE (NB true) (aB 4) (aB 3)) (dR (p8 x a l q kd s v6 v7))=some (!(cV kd.1 kd.2 (kS a l)).isSome):=by
 refine DJ (d:=.bl (!(cV kd.1 kd.2 (kS a l)).isSome)) (bP (x:=.tup [tupI a,.int l]) (y:=.fC q kd.1 kd.2) rfl rfl ?_) rfl
 show ((tI (.tup [tupI a,.int l])).bind _)=_
 rw [LN]
 show (if _ then _ else _)=_
 rw [if_pos (mZ h.2.1 rfl)]
 rfl
theorem YL {x:List (List Int)} {a:List Int} {l:Int} {q q0:Nat->Obj->Prop} {kd:KD} {s v6 v7:Sv} {d:D} (h:jO x kd) (hq:∀ b o,q b o -> ∃ o2,q0 b o2) (hl:cV kd.1 kd.2 (kS a l)=some d):VD 3 (aB 4) q0 (p8 x a l q kd s v6 v7)=some (d,kd):=by
 have e:VD 3 (aB 4) q0 (p8 x a l q kd s v6 v7)=(tI (.tup [tupI a,.int l])).bind fun kk=>@ite _ (kindB kd.1 kk=true /\ ∀ b o,q b o -> ∃ o2,q0 b o2) (Classical.propDecidable _) ((cV kd.1 kd.2 kk).map fun d=>(d,kd)) none:=rfl
 rw [e,LN]
 exact (if_pos ⟨mZ h.2.1 rfl,hq⟩).trans (by rw [hl]; rfl)
theorem rep0 (n:Nat) (h:n<=1000):repLM (.lst [.int 0]) (.int (n:Int))=some (aG (List.replicate n 0)):=by
 show (if _ then _ else _)=_
 rw [if_pos ⟨by simp [tD]; omega,by omega⟩]
 unfold aG
 congr 2
 simp only [Int.toNat_natCast]
 induction n with
 | zero=>rfl
 | succ n ih=>rw [List.replicate_succ,List.flatten_cons,ih (by omega),List.replicate_succ]; rfl
theorem xX {x:List (List Int)} {a:List Int} (h:NF x a) (hl:a.length=x.length):aN x a=[]:=by
 have:=jV h
 exact List.eq_nil_of_length_eq_zero (by omega)
theorem LP {x:List (List Int)} {ρ:cD} (hx:x.length<=9) (h:ρ[0]? = some (some (aV x))):aE repLM (eW (aA (eC (.int 0)) aC)) (cB p6 (aA (cB bY (aA (aB 0) aC)) (aA (eC (.int 1)) aC))) ρ=some (aG (xW x.length)):=by
 have e0:aB 0 ρ=some (aV x):=by unfold aB; rw [h]; rfl
 refine bP (x:=.lst [.int 0]) (y:=.int ((max x.length 1:Nat):Int)) rfl (VJ (x:=.int x.length) (y:=.int 1) (eX e0 eD) rfl ?_) (rep0 _ (by omega))
 show some (D.int (if _ then _ else _))=_
 split<;>congr 2<;>omega
theorem GB {x:List (List Int)} {a:List Int} {ρ:cD} (h0:ρ[0]? = some (some (aV x))) (h1:ρ[1]? = some (some (tupI a))):tV (aE tG (cB bY (aA (aB 1) aC)) (cB bY (aA (aB 0) aC))) ρ=some (decide (a.length=x.length)):=by
 have e0:aB 0 ρ=some (aV x):=by unfold aB; rw [h0]; rfl
 have e1:aB 1 ρ=some (tupI a):=by unfold aB; rw [h1]; rfl
 refine DJ (d:=.bl (decide ((a.length:Int)=x.length))) (bP (eX e1 FU) (eX e0 eD) gP) ?_
 rw [oU]
 congr 1
 exact decide_eq_decide.2 (by omega)
noncomputable def AJ (x:List (List Int)) (kd:KD) (a:List Int) (l:Int):KD:=gC kd.1 kd.2 (kS a l) (aG (Sh x (x.length - a.length) a l))
theorem LQ {x:List (List Int)} {kd:KD} {a:List Int} {l:Int} (h:jO x kd):jO x (AJ x kd a l)/\(AJ x kd a l).1.length<=kd.1.length+1/\cV (AJ x kd a l).1 (AJ x kd a l).2 (kS a l)=some (aG (Sh x (x.length - a.length) a l)) :=
 ⟨h.put a l,(LM h.1).2,by unfold AJ; rw [F0 (ks:=[]) h.1,if_pos rfl]⟩
theorem YM {x:List (List Int)} {a:List Int} {l:Int} {q:Nat->Obj->Prop} {kd:KD} {v6 v7:Sv} (h:jO x kd) (hc:kd.1.length<16000000) :
  A2 3 (bT (aB 5)) (aB 4) (p8 x a l q kd (.ro (aG (Sh x (x.length - a.length) a l))) v6 v7)=.nx (p8 x a l (adr q) (AJ x kd a l) (.ro (aG (Sh x (x.length - a.length) a l))) v6 v7):=by
 have e0:A2 3 (bT (aB 5)) (aB 4) (p8 x a l q kd (.ro (aG (Sh x (x.length - a.length) a l))) v6 v7)=(match ((tI (.tup [tupI a,.int l])).bind fun kk=>if kindB kd.1 kk=true/\kd.2.length<tD then some ((p8 x a l q kd (.ro (aG (Sh x (x.length - a.length) a l))) v6 v7).set 3 (.ow (.fC (adr q) (gC kd.1 kd.2 kk (aG (Sh x (x.length - a.length) a l))).1 (gC kd.1 kd.2 kk (aG (Sh x (x.length - a.length) a l))).2))) else none) with
  | some ρ'=>.nx ρ'
  | none=>.no):=rfl
 rw [e0,LN,Option.bind_some,if_pos ⟨mZ h.2.1 rfl,by rw [<- h.1]; unfold tD; omega⟩]
 rfl
theorem aG7 {ρ:bF} {r:List Int} (h:ρ[5]? = some (.ow (aG (0::r)))):uY 5 (bT (eC (.int 1))) (eC (.int 0)) ρ=.nx (ρ.set 5 (.ow (aG (1::r)))):=by
 have e:uY 5 (bT (eC (.int 1))) (eC (.int 0)) ρ=(match ((qH ρ[5]?).bind fun ds=>(P0 ds.length 0).map fun j=>ρ.set 5 (.ow (.lst (ds.set j (.int 1))))) with
  | some ρ'=>.nx ρ'
  | none=>.no):=rfl
 rw [e,h]
 show (match ((P0 ((0::r).map D.int).length 0).map fun j=>ρ.set 5 (.ow (.lst (((0::r).map D.int).set j (.int 1))))) with
  | some ρ'=>Out.nx ρ'
  | none=>.no)=_
 rw [xH (by decide) (by simp)]
 rfl
noncomputable abbrev bS (n:Nat):SF:=(aJ (aT 4 (lJ (aA (aB 1) (aA (aB 2) aC))))
  (iF (tV (aE (NB true) (aB 4) (aB 3)))
   (aJ (hW 5 (aE repLM (eW (aA (eC (.int 0)) aC)) (cB p6 (aA (cB bY (aA (aB 0) aC)) (aA (eC (.int 1)) aC)))))
   (aJ (iF (tV (aE tG (cB bY (aA (aB 1) aC)) (cB bY (aA (aB 0) aC))))
    (uY 5 (bT (eC (.int 1))) (eC (.int 0)))
    eJ)
   (aJ (P7 5 (dQ (cU (aI LL.eK (aA (aB 0) (aA (aB 1) aC)))) (j8 6)
    (aJ (tJ 7 (bH n) (aA (aB 0) (aA (aI LL.gD (aA (aB 1) (aA (aB 6) aC))) (aA (aB 6) aC))) 3)
    (aT 5 (aI jQ (aA (aB 5) (aA (U5 (tV (aE AG (aB 2) (aB 6))) (aI bU (aA (aB 7) aC)) (aB 7)) aC)))))))
   (A2 3 (bT (aB 5)) (aB 4)))))
   eJ))
theorem vT {x:List (List Int)} {n:Nat} {a:List Int} {l:Int} {kd xZ:KD} {d:D} (h:jO x kd)
  (there:∀ d',cV kd.1 kd.2 (kS a l)=some d'->d' = d/\xZ = kd)
  (new:cV kd.1 kd.2 (kS a l)=none -> ∀ q,∃ q2 kd2 v5 v6 v7,(∀ b o,q2 b o -> ∃ o2,q b o2)/\bS n (startM 8 [aV x,tupI a,.int l] q kd)=.nx (p8 x a l q2 kd2 v5 v6 v7)/\jO x kd2/\cV kd2.1 kd2.2 (kS a l)=some d/\kd2=xZ) :
  bH (n+1) [aV x,tupI a,.int l] kd=.ok (d,xZ):=by
 unfold bH
 refine VE fun q=>?_
 have e1:wW 8 4 (bS n) (aB 4) q [aV x,tupI a,.int l] kd=(match bS n (startM 8 [aV x,tupI a,.int l] q kd) with
  | .nx ρ=>VD 3 (aB 4) q ρ
  | _=>none):=rfl
 refine e1.trans ?_
 cases hl:cV kd.1 kd.2 (kS a l) with
 | some d' =>
  obtain ⟨rfl,rfl⟩:=there d' hl
  have e2:bS n (startM 8 [aV x,tupI a,.int l] q xZ)=.nx (p8 x a l q xZ .no .no .no):=by
   refine eB (p8 x a l q xZ .no .no .no) (fV (.tup [tupI a,.int l]) rfl rfl) ?_
   refine xF ?_ rfl
   rw [ZP h,hl]
   rfl
  rw [e2]
  exact YL h (fun b o ho=>⟨o,ho⟩) hl
 | none =>
  obtain ⟨q2,kd2,v5,v6,v7,hq,eb,hM,hl2,rfl⟩:=new hl q
  rw [eb]
  exact YL hM hq hl2
theorem YN {a b c:EF} {ρ:cD} {x y z:D} (ha:a ρ=some x) (hb:b ρ=some y) (hc:c ρ=some z):aA a (aA b (aA c aC)) ρ=some [x,y,z]:=by
 have:=args2 hb hc
 unfold aA at this ⊢
 rw [ha,this]
 rfl
noncomputable abbrev lS (n:Nat):SF:=aJ (tJ 7 (bH n) (aA (aB 0) (aA (aI LL.gD (aA (aB 1) (aA (aB 6) aC))) (aA (aB 6) aC))) 3)
    (aT 5 (aI jQ (aA (aB 5) (aA (U5 (tV (aE AG (aB 2) (aB 6))) (aI bU (aA (aB 7) aC)) (aB 7)) aC))))
noncomputable def iH (x:List (List Int)) (m:Nat) (a:List Int) (l:Int) (acc:List Int) (t:Int):List Int:=gT acc (if t<l then kD (Sh x m (aK a t) t) else Sh x m (aK a t) t)
theorem ZQ {x:List (List Int)} {n m:Nat} {a:List Int} {l t:Int} {kd xZ:KD} {acc:List Int} {q:Nat->Obj->Prop} {v7:Sv} (ha:a.length<=9) (hx:x.length<=9) (hacc:acc.length=max x.length 1)
  (hR:bH n [aV x,tupI (aK a t),.int t] kd=.ok (aG (Sh x m (aK a t) t),xZ)) :
  lS n (p8 x a l q kd (.ro (aG acc)) (.ro (.int t)) v7)=.nx (p8 x a l (adr q) xZ (.ro (aG (iH x m a l acc t))) (.ro (.int t)) (.ro (aG (Sh x m (aK a t) t)))):=by
 have hS:=iM x m (aK a t) t
 refine eB (p8 x a l (adr q) xZ (.ro (aG acc)) (.ro (.int t)) (.ro (aG (Sh x m (aK a t) t)))) ?_ ?_
 ·have e:stepM (bH n) (aA (aB 0) (aA (aI LL.gD (aA (aB 1) (aA (aB 6) aC))) (aA (aB 6) aC))) 3 (p8 x a l q kd (.ro (aG acc)) (.ro (.int t)) v7)=some (q,aG (Sh x m (aK a t) t),xZ):=by
   unfold stepM
   have e1:aA (aB 0) (aA (aI LL.gD (aA (aB 1) (aA (aB 6) aC))) (aA (aB 6) aC)) (lI (p8 x a l q kd (.ro (aG acc)) (.ro (.int t)) v7))=some [aV x,tupI (aK a t),.int t]:=by
    have e2:aI LL.gD (aA (aB 1) (aA (aB 6) aC)) (lI (p8 x a l q kd (.ro (aG acc)) (.ro (.int t)) v7))=some (tupI (aK a t)):=dD rfl rfl (NG ha)
    exact YN rfl e2 rfl
   rw [e1,Option.bind_some]
   show (match bH n [aV x,tupI (aK a t),.int t] kd with
    | .ok r=>some (q,r)
    | _=>none)=_
   rw [hR]
  unfold tJ
  rw [e]
  rfl
 ·refine fV (aG (iH x m a l acc t)) ?_ rfl
  have e3:U5 (tV (aE AG (aB 2) (aB 6))) (aI bU (aA (aB 7) aC)) (aB 7) (lI (p8 x a l (adr q) xZ (.ro (aG acc)) (.ro (.int t)) (.ro (aG (Sh x m (aK a t) t)))))=some (aG (if t<l then kD (Sh x m (aK a t) t) else Sh x m (aK a t) t)):=by
   have et:tV (aE AG (aB 2) (aB 6)) (lI (p8 x a l (adr q) xZ (.ro (aG acc)) (.ro (.int t)) (.ro (aG (Sh x m (aK a t) t)))))=some (decide (t<l)):=rfl
   unfold U5
   rw [et,Option.bind_some]
   by_cases h:t<l
   ·rw [decide_eq_true h,if_pos rfl,if_pos h]
    exact h8 rfl (rV (by omega) (by omega))
   ·rw [decide_eq_false h,if_neg (by decide),if_neg h]
    rfl
  exact dD rfl e3 (QU (by omega))
theorem QV {x:List (List Int)} {n m:Nat} {a:List Int} {l:Int} (ha:a.length<=9) (hx:x.length<=9):∀ (ts:List Int) (acc:List Int) (kd:KD),acc.length=max x.length 1->jO x kd ->
  (∀ t∈ts,∀ kd,jO x kd->kd.1.length+most m<=10000000 -> ∃ xZ,bH n [aV x,tupI (aK a t),.int t] kd=.ok (aG (Sh x m (aK a t) t),xZ)/\jO x xZ/\xZ.1.length<=kd.1.length+most m) ->
  kd.1.length+ts.length*most m<=10000000 ->
  ∃ kd2,jO x kd2/\kd2.1.length<=kd.1.length+ts.length*most m /\ ∀ (q0 q:Nat->Obj->Prop) (v6 v7:Sv),(∀ b o,q b o -> ∃ o2,q0 b o2) -> ∃ (q2:Nat->Obj->Prop) (w6 w7:Sv),(∀ b o,q2 b o -> ∃ o2,q0 b o2) /\
   jN (j8 6) (lS n) (ts.map D.int) (p8 x a l q kd (.ro (aG acc)) v6 v7)=.nx (p8 x a l q2 kd2 (.ro (aG (ts.foldl (iH x m a l) acc))) w6 w7)
 | [],acc,kd,hacc,hM,_,_=>⟨kd,hM,by simp,fun q0 q v6 v7 hq=>⟨q,v6,v7,hq,rfl⟩⟩
 | t::ts,acc,kd,hacc,hM,hR,hc=>by
  rw [List.length_cons,Nat.succ_mul] at hc
  obtain ⟨kd1,e1,hM1,hc1⟩:=hR t List.mem_cons_self kd hM (by omega)
  have hS:=iM x m (aK a t) t
  have aCH:(iH x m a l acc t).length=max x.length 1:=by
   unfold iH
   rw [eF]
   ·exact hacc
   ·rw [hacc]
    split
    ·rw [lB (by omega)]; exact hS.symm
    ·exact hS.symm
  obtain ⟨kd2,hM2,hc2,go⟩:=QV ha hx ts (iH x m a l acc t) kd1 aCH hM1 (fun u hu=>hR u (List.mem_cons_of_mem _ hu)) (by omega)
  refine ⟨kd2,hM2,by rw [List.length_cons,Nat.succ_mul]; omega,fun q0 q v6 v7 hq=>?_⟩
  obtain ⟨q2,w6,w7,hq2,e2⟩:=go q0 (adr q) (.ro (.int t)) (.ro (aG (Sh x m (aK a t) t))) fun b o ⟨o1,h1⟩=>hq b o1 h1
  refine ⟨q2,w6,w7,hq2,?_⟩
  rw [List.map_cons,List.foldl_cons]
  have e3:jN (j8 6) (lS n) (D.int t::ts.map D.int) (p8 x a l q kd (.ro (aG acc)) v6 v7)=(match lS n (p8 x a l q kd (.ro (aG acc)) (.ro (.int t)) v7) with
   | .nx ρ2=>jN (j8 6) (lS n) (ts.map D.int) ρ2
   | o=>o):=rfl
  rw [e3,ZQ ha hx hacc e1]
  exact e2
theorem VP {x:List (List Int)} (hx:x.length<=9) (hr:∀ r∈x,r.length<=9):∀ (m e:Nat) (a:List Int) (l:Int) (kd:KD),NF x a->a.length+m=x.length->jO x kd->kd.1.length+most m<=10000000 ->
  ∃ xZ,bH (m+1+e) [aV x,tupI a,.int l] kd=.ok (aG (Sh x m a l),xZ)/\jO x xZ/\xZ.1.length<=kd.1.length+most m/\cV xZ.1 xZ.2 (kS a l)=some (aG (Sh x m a l)):=by
 intro m
 induction m with
 | zero =>
  intro e a l kd ok hl hM hc
  have hl:a.length=x.length:=hl
  have m0:most 0=1:=rfl
  have e0:x.length - a.length=0:=by omega
  rw [show 0+1+e=e+1 by omega]
  cases hk:cV kd.1 kd.2 (kS a l) with
  | some d =>
   have ed:=hM.2.2 a l d hk
   rw [e0] at ed
   subst ed
   exact ⟨kd,vT hM (fun d' h'=>by rw [hk] at h'; exact ⟨(Option.some.inj h').symm,rfl⟩) (fun h'=>by rw [hk] at h'; cases h'),hM,by omega,hk⟩
  | none =>
   obtain ⟨p1,p2,p3⟩:=LQ (a:=a) (l:=l) hM
   rw [e0] at p3
   refine ⟨AJ x kd a l,vT hM (fun d' h'=>by rw [hk] at h'; cases h') fun _ q=>⟨adr q,AJ x kd a l,.ro (aG (Sh x 0 a l)),.no,.no,fun b o h=>h,?_,p1,p3,rfl⟩,p1,by omega,p3⟩
   ·refine eB (p8 x a l q kd .no .no .no) (fV (.tup [tupI a,.int l]) rfl rfl) (QA ?_ ?_)
    ·rw [ZP hM,hk]; rfl
    ·have ez:xW x.length=0::List.replicate (max x.length 1 - 1) 0:=by
      unfold xW
      rw [<- List.replicate_succ]
      congr 1
      omega
     refine eB (p8 x a l q kd (.ow (aG (xW x.length))) .no .no) (by unfold hW; rw [LP hx rfl]; rfl) ?_
     refine eB (p8 x a l q kd (.ow (aG (xV x.length))) .no .no) (QA ((GB rfl rfl).trans (by rw [decide_eq_true hl])) ?_) ?_
     ·rw [ez]
      exact aG7 rfl
     refine eB (p8 x a l q kd (.ro (aG (xV x.length))) .no .no) ?_ ?_
     ·show dQ _ _ _ (p8 x a l q kd (.ro (aG (xV x.length))) .no .no)=_
      refine VG [] ?_ rfl
      unfold cU
      rw [dD (x:=aV x) (y:=tupI a) rfl rfl (FX hx hr),xX ok hl]
      rfl
     ·have:=YM (x:=x) (a:=a) (l:=l) (q:=q) (kd:=kd) (v6:=.no) (v7:=.no) hM (by omega)
      rw [e0] at this
      exact this
 | succ m ih =>
  intro e a l kd ok hl hM hc
  have mm:most (m+1)=1+(m+1)*most m:=rfl
  have e0:x.length - a.length=m+1:=by omega
  have hfew:=jV ok
  have ha:=VO ok
  rw [show m+1+1+e=(m+1+e)+1 by omega]
  cases hk:cV kd.1 kd.2 (kS a l) with
  | some d =>
   have ed:=hM.2.2 a l d hk
   rw [e0] at ed
   subst ed
   exact ⟨kd,vT hM (fun d' h'=>by rw [hk] at h'; exact ⟨(Option.some.inj h').symm,rfl⟩) (fun h'=>by rw [hk] at h'; cases h'),hM,by omega,hk⟩
  | none =>
   have hlen:(aN x a).length*most m<=(m+1)*most m:=Nat.mul_le_mul_right _ (by omega)
   obtain ⟨kd1,hM1,hc1,go⟩:=QV (n:=m+1+e) (m:=m) (l:=l) (by omega:a.length<=9) hx (aN x a) (xW x.length) kd (kE _) hM (fun t ht kd hM' hc'=>(ih e (aK a t) t kd ((YJ ok).1 _ (List.mem_map_of_mem ht)).1 (by have:=((YJ ok).1 _ (List.mem_map_of_mem ht)).2; omega) hM' hc').imp fun _ h=>⟨h.1,h.2.1,h.2.2.1⟩) (by omega)
   obtain ⟨p1,p2,p3⟩:=LQ (a:=a) (l:=l) hM1
   rw [e0] at p3
   refine ⟨AJ x kd1 a l,vT hM (fun d' h'=>by rw [hk] at h'; cases h') fun _ q=>?_,p1,by omega,p3⟩
   obtain ⟨q2,w6,w7,hq2,el⟩:=go q q .no .no fun b o h=>⟨o,h⟩
   refine ⟨adr q2,AJ x kd1 a l,.ro (aG (Sh x (m+1) a l)),w6,w7,fun b o ⟨o1,h1⟩=>hq2 b o1 h1,?_,p1,p3,rfl⟩
   refine eB (p8 x a l q kd .no .no .no) (fV (.tup [tupI a,.int l]) rfl rfl) (QA ?_ ?_)
   ·rw [ZP hM,hk]; rfl
   ·refine eB (p8 x a l q kd (.ow (aG (xW x.length))) .no .no) (by unfold hW; rw [LP hx rfl]; rfl) ?_
    refine eB (p8 x a l q kd (.ow (aG (xW x.length))) .no .no) (xF ((GB rfl rfl).trans (by rw [decide_eq_false (by omega)])) rfl) ?_
    refine eB (p8 x a l q2 kd1 (.ro (aG (Sh x (m+1) a l))) w6 w7) ?_ ?_
    ·show dQ _ _ _ (p8 x a l q kd (.ro (aG (xW x.length))) .no .no)=_
     refine VG ((aN x a).map D.int) ?_ el
     unfold cU
     rw [dD (x:=aV x) (y:=tupI a) rfl rfl (FX hx hr)]
     rfl
    ·have:=YM (x:=x) (a:=a) (l:=l) (q:=q2) (kd:=kd1) (v6:=w6) (v7:=w7) hM1 (by omega)
     rw [e0] at this
     exact this
theorem ZR:∀ {n:Nat},n<=9->most n<=1000000:=by
 intro n h
 have:∀ n,n<=9->most n<=1000000:=by decide
 exact this n h
noncomputable def shares (x:List (List Int)):List Int:=Sh x x.length [] 0
theorem pA {x:List (List Int)} (hx:x.length<=9) (hr:∀ r∈x,r.length<=9):aS [aV x]=.ok (tupI (shares x)):=by
 obtain ⟨kd,e,hM,hc,hl⟩:=VP hx hr x.length (10 - x.length) [] 0 ([],[]) vP (by simp) ⟨rfl,fun q hq=>(by cases hq),fun a l d h=>(by simp [cV] at h)⟩ (by have:=ZR hx; simp; omega)
 rw [show x.length+1+(10 - x.length)=11 by omega] at e
 have e1:gX [aV x]=.ok (.fC (adr uZ) kd.1 kd.2):=by
  unfold gX
  refine hJ rfl (eB [.ro (aV x),.ow (.fC uZ [] [])] rfl (eB [.ro (aV x),.ow (.fC (adr uZ) kd.1 kd.2)] ?_ (iG rfl)))
  have e2:stepM (bH 11) (aA (aB 0) (aA (lJ aC) (aA (eC (.int 0)) aC))) 1 [.ro (aV x),.ow (.fC uZ [] [])]=some (uZ,aG (Sh x x.length [] 0),kd):=by
   unfold stepM
   rw [YN (x:=aV x) (y:=tupI []) (z:=.int 0) rfl rfl rfl,Option.bind_some]
   show (match bH 11 [aV x,tupI [],.int 0] ([],[]) with
    | .ok r=>some (uZ,r)
    | _=>none)=_
   rw [e]
  unfold VF
  rw [e2]
  rfl
 unfold aS
 refine hJ rfl (iG (eX (x:=aG (shares x)) (bP (x:=.fC (adr uZ) kd.1 kd.2) (y:=.tup [tupI [],.int 0]) (h8 rfl e1) rfl ?_) rfl))
 show ((tI (.tup [tupI [],.int 0])).bind fun k=>if kindB kd.1 k=true then cV kd.1 kd.2 k else none)=_
 rw [LN,Option.bind_some,if_pos (mZ hM.2.1 rfl)]
 exact hl
end LL
end
section
namespace LL
open PySem L3 L4 K24
theorem IZ {x:Int} (hx:Bg 210 x):∀ m:Nat,m<=1000->Bg (211*m+1) (ff x m)
 | 0,_=>by unfold Bg ff; decide
 | m+1,h=>by
  have h1:=IZ hx m (by omega)
  have h2:Bg 211 (x - m):=by
   have:Bg 210 (m:Int):=by
    unfold Bg
    have:(m:Int).natAbs<2 ^ 10:=by omega
    exact Nat.lt_of_lt_of_le this (Nat.pow_le_pow_right (by decide) (by decide))
   exact hx.sub this
  exact (h1.mul h2).mono (by omega)
theorem QW {x:Int} (hx:Bg 210 x) {m:Nat} (hm:m<=1000):Bg (211*m+1) (C x m):=by
 have h:=IZ hx m hm
 have e:=A9 x m
 unfold Bg at h ⊢
 rw [<- e,Int.natAbs_mul] at h
 have:1<=(fact m).natAbs:=by have:=mC m; omega
 exact Nat.lt_of_le_of_lt (Nat.le_mul_of_pos_right _ this) h
theorem ZS (x:Int) (i:Nat):C x i*(x - i) / ((i:Int)+1)=C x (i+1):=by
 have h1:=A9 x i
 have h2:=A9 x (i+1)
 have e:C x i*(x - i)=C x (i+1)*((i:Int)+1):=by
  refine Int.eq_of_mul_eq_mul_right (Int.ne_of_gt (mC i)) ?_
  rw [show fact (i+1)=fact i*(i+1) from rfl,show ff x (i+1)=ff x i*(x - i) from rfl,<- h1] at h2
  calc C x i*(x - ↑i)*fact i=C x i*fact i*(x - ↑i):=by rw [Int.mul_right_comm]
   _=C x (i+1)*(fact i*(↑i+1)):=h2.symm
   _=C x (i+1)*(↑i+1)*fact i:=by rw [Int.mul_comm (fact i),Int.mul_assoc]
 rw [e,Int.mul_ediv_cancel _ (by omega)]
theorem NK {x:Int} {m:Nat} (hx:Bg 210 x) (hm:m<=12):mD [.int x,.int m]=.ok (.int (C x m)):=by
 unfold mD
 have h:Rt (aJ (aT 2 (eC (.int 1))) (aJ (dQ (aU (aA (aB 1) aC)) (j8 3) (aT 2 (aE tF (aE mulM (aB 2) (aE dZ (aB 0) (aB 3))) (aE bO (aB 3) (eC (.int 1)))))) (bD (aB 2))) (eA 4 [.int x,.int m])) fun d=>d=.int (C x m):=by
  refine bL [.ro (.int x),.ro (.int m),.ro (.int 1),.no] rfl ?_
  refine kA (fun ρ=>∃ v,ρ=[.ro (.int x),.ro (.int m),.ro (.int (C x m)),v]) ?_ fun ρ ⟨v,e⟩=>by subst e; exact kB _ rfl rfl
  refine jM m (fun i ρ=>∃ v,ρ=[.ro (.int x),.ro (.int m),.ro (.int (C x i)),v]) rfl (by omega) ⟨_,rfl⟩ (fun i ρ hi ⟨v,e⟩=>?_) fun ρ h=>h
  subst e
  refine ⟨_,rfl,qM (.int (C x (i+1))) (bP (x:=.int (C x i*(x - i))) (y:=.int ((i:Int)+1)) (bP (x:=.int (C x i)) (y:=.int (x - i)) rfl rfl (vO (p:=211*i+1) (q:=211) (by omega) (by omega) (QW hx (by omega)) ?_)) rfl ?_) ⟨_,rfl⟩⟩
  ·have:Bg 210 (i:Int):=by
    unfold Bg
    have:(i:Int).natAbs<2 ^ 10:=by omega
    exact Nat.lt_of_lt_of_le this (Nat.pow_le_pow_right (by decide) (by decide))
   exact hx.sub this
  ·rw [mB (by omega) (by omega),ZS]
 obtain ⟨d,e,rfl⟩:=lL rfl h
 exact e
theorem LR {m:Nat} (h:m<=12):fact m<1073741824:=by
 have:∀ m,m<=12->fact m<1073741824:=by decide
 exact this m h
theorem uK {x:Int} {m:Nat} (hx:Bg 210 x) (hm:m<=12):dM [.int x,.int m]=.ok (.int (C x m)):=by
 unfold dM
 have h:Rt ((aJ (aT 2 (eC (.int 1))) (aJ (aT 3 (eC (.int 1))) (aJ (dQ (aU (aA (aB 1) aC)) (j8 4) (aJ (aT 2 (aE mulM (aB 2) (aE dZ (aB 0) (aB 4)))) (aT 3 (aE mulM (aB 3) (aE bO (aB 4) (eC (.int 1))))))) (bD (aE tF (aB 2) (aB 3)))))) (eA 5 [.int x,.int m])) fun d=>d=.int (C x m):=by
  refine bL [.ro (.int x),.ro (.int m),.ro (.int 1),.no,.no] rfl ?_
  refine bL [.ro (.int x),.ro (.int m),.ro (.int 1),.ro (.int 1),.no] rfl ?_
  refine kA (fun ρ=>∃ v,ρ=[.ro (.int x),.ro (.int m),.ro (.int (ff x m)),.ro (.int (fact m)),v]) ?_ fun ρ hq0=>by
   obtain ⟨v,e⟩:=hq0
   subst e
   exact kB (.int (C x m)) (bP rfl rfl (mB (mC m) (LR hm))) rfl
  refine jM m (fun i ρ=>∃ v,ρ=[.ro (.int x),.ro (.int m),.ro (.int (ff x i)),.ro (.int (fact i)),v]) rfl (by omega) ⟨_,rfl⟩ (fun i ρ hi ⟨v,e⟩=>?_) fun ρ h=>h
  subst e
  have hf:=LR (m:=i) (by omega)
  have hp:=mC i
  refine ⟨_,rfl,mV [.ro (.int x),.ro (.int m),.ro (.int (ff x (i+1))),.ro (.int (fact i)),.ro (.int i)] (fV (.int (ff x (i+1))) (bP (x:=.int (ff x i)) (y:=.int (x - i)) rfl rfl (vO (p:=211*i+1) (q:=211) (by omega) (by omega) (IZ hx i (by omega)) ?_)) rfl) (qM (.int (fact (i+1))) (bP (x:=.int (fact i)) (y:=.int ((i:Int)+1)) rfl rfl (lK (by omega))) ⟨_,rfl⟩)⟩
  have:Bg 210 (i:Int):=by
   unfold Bg
   have:(i:Int).natAbs<2 ^ 10:=by omega
   exact Nat.lt_of_lt_of_le this (Nat.pow_le_pow_right (by decide) (by decide))
  exact hx.sub this
 obtain ⟨d,e,rfl⟩:=lL rfl h
 exact e
noncomputable def dvL (n:Nat) (k:Int) (w:List Int) (d:Nat):List Int:=(w.zipIdx d).map fun p=>p.1*C (k+n - 1 - p.2) n
theorem DR (n:Nat) (k:Int):∀ (w:List Int) (d:Nat),(dvL n k w d).sum=DV n d w k
 | [],d=>rfl
 | a::w,d=>by
  have ih:=DR n k w (d+1)
  show a*C (k+n - 1 - d) n+(dvL n k w (d+1)).sum=a*C (k+n - 1 - d) n+DV n ((d:Int)+1) w k
  rw [ih]
  rfl
theorem rW {k:Int} (hk:Bg 208 k) {a b:Nat} (ha:a<=1000) (hb:b<=1000):Bg 210 (k+a - 1 - b):=by
 unfold Bg at hk ⊢
 have:(2:Nat) ^ 210=4*2 ^ 208:=by rw [show 210=2+208 from rfl,Nat.pow_add]
 have h2:2000<2 ^ 208:=Nat.lt_of_lt_of_le (by decide:2000<2 ^ 11) (Nat.pow_le_pow_right (by decide) (by decide))
 rw [this]
 generalize 2 ^ 208=z at *
 omega
theorem uL {w:List Int} {n:Nat} {k:Int} (hw:w.length<=20) (hs:∀ y∈w,y.natAbs<18446744073709551616) (hn:n<=12) (hk:Bg 208 k):bX [tupI w,.int n,.int k]=.ok (.int (DV n 0 w k)):=by
 unfold bX
 have e:=DR n k w 0
 rw [show ((0:Nat):Int)=0 from rfl] at e
 rw [<- e]
 refine hJ rfl (iG (eX (x:=aG (dvL n k w 0)) ?_ sum_ints))
 refine i8 ((w.zipIdx).map fun p=>D.tup [.int (p.2:Int),.int p.1]) ?_ (by simp; omega) ?_
 ·unfold rK
  rw [args1 (x:=tupI w) rfl]
  show some (((w.map D.int).zipIdx).map _)=_
  rw [zipIdx_map,List.map_map]
  rfl
 ·unfold dvL
  rw [List.map_map]
  refine fI (fun p:Int×Nat=>D.tup [.int (p.2:Int),.int p.1]) (fun p=>.int (p.1*C (k+n - 1 - p.2) n)) w.zipIdx fun p hp=>⟨[some (.int p.2),some (.int p.1),some (.int n),some (.int k)],rfl,?_⟩
  have hm:=List.mem_zipIdx hp
  have h1:p.1∈w:=by have:=hm.2.2; rw [this]; exact List.getElem_mem _
  exact bP (x:=.int p.1) (y:=.int (C (k+n - 1 - p.2) n)) rfl (dD (x:=.int (k+n - 1 - p.2)) (y:=.int n) rfl rfl (NK (rW hk (by omega) (by omega)) hn)) (lK (hs _ h1))
theorem ZT {i:Nat} {f:EF} {ρ:bF} {ds:List D} {d:D} (h1:f (lI ρ)=some d) (h2:ρ[i]? = some (.ow (.lst ds))) (hl:ds.length<16777216):sX (rH i iK (bT f)) ρ=.nx (ρ.set i (.ow (.lst (ds++[d])))):=by
 have e:rH i iK (bT f) ρ=some (ρ.set i (.ow (.lst (ds++[d]))),.non):=by
  unfold rH bT
  rw [h2,h1]
  show ((qH ρ[i]?).bind fun ds=>(iK ds d).map _)=_
  rw [h2]
  show ((iK ds d).map _)=_
  rw [vJ hl]
  rfl
 unfold sX
 rw [e]
theorem BE:∀ r:List Int,diffs r=(r.zip (r.drop 1)).map fun p=>p.2 - p.1
 | []=>rfl
 | [a]=>rfl
 | a::b::l=>by
  have ih:=BE (b::l)
  show (b - a)::diffs (b::l)=_
  rw [ih]
  rfl
theorem QX {v:List Int} (hv:v.length<=1000):dF [aG v]=.ok (tupI (fd v)):=by
 unfold dF
 have step:∀ (n:Nat) (r f:List Int) (m:Nat),r.length=n->n<m->f.length+n<=1000->fQ (tV (aB 2)) (aJ (sX (rH 1 iK (bT (aE fA (aB 2) (eC (.int 0)))))) (aT 2 (bV 2 [] (uI (aA (aB 2) (aA (VA (aB 2) (oE (eC (.int 1))) U9) aC))) (g2 0 1) cL (aE dZ (aB 1) (aB 0))))) m [.ro (aG v),.ow (aG f),.ro (aG r)]=.nx [.ro (aG v),.ow (aG (f++fd r)),.ro (aG [])]:=by
  intro n
  induction n with
  | zero =>
   intro r f m hr hm hf
   rw [List.length_eq_zero_iff] at hr
   subst hr
   cases m with
   | zero=>omega
   | succ m =>
    unfold fQ
    rw [tW,List.append_nil]
    rfl
  | succ n ih =>
   intro r f m hr hm hf
   cases m with
   | zero=>omega
   | succ m =>
    cases r with
    | nil=>cases hr
    | cons a r =>
     have e1:(aJ (sX (rH 1 iK (bT (aE fA (aB 2) (eC (.int 0)))))) (aT 2 (bV 2 [] (uI (aA (aB 2) (aA (VA (aB 2) (oE (eC (.int 1))) U9) aC))) (g2 0 1) cL (aE dZ (aB 1) (aB 0))))) [.ro (aG v),.ow (aG f),.ro (aG (a::r))]=.nx [.ro (aG v),.ow (aG (f++[a])),.ro (aG (diffs (a::r)))]:=by
      refine eB [.ro (aG v),.ow (aG (f++[a])),.ro (aG (a::r))] ?_ (fV (aG (diffs (a::r))) ?_ rfl)
      ·rw [ZT (d:=.int a) (ds:=f.map D.int) (bP (x:=aG (a::r)) (y:=.int 0) rfl rfl (oV (ws:=a::r) (j:=0) rfl)) rfl (by rw [List.length_map]; omega)]
       show Out.nx [Sv.ro (aG v),.ow (.lst (f.map D.int++[D.int a])),.ro (aG (a::r))]=_
       rw [oX]
      ·have e5:aG (diffs (a::r))=.lst (((a::r).zip ((a::r).drop 1)).map fun p=>.int (p.2 - p.1)):=by
        rw [BE]
        unfold aG
        rw [List.map_map]
        rfl
       rw [e5]
       refine i8 (((a::r).zip ((a::r).drop 1)).map fun p=>D.tup [.int p.1,.int p.2]) ?_ (by simp at hr ⊢; omega) ?_
       ·unfold uI
        have e3:VA (aB 2) (oE (eC (.int 1))) U9 (lI [Sv.ro (aG v),.ow (aG (f++[a])),.ro (aG (a::r))])=some (aG r):=by
         show some (D.lst (NA ((a::r).map D.int) (some 1) none))=_
         unfold NA P2
         simp [aG]
         exact List.take_of_length_le (i:=r.length) (by simp)
        rw [args2 (x:=aG (a::r)) (y:=aG r) rfl e3]
        show some ((((a::r).map D.int).zip (r.map D.int)).map _)=_
        rw [List.zip_map,List.map_map]
        rfl
       ·exact fI (fun p:Int×Int=>D.tup [.int p.1,.int p.2]) (fun p=>.int (p.2 - p.1)) _ fun p _=>⟨[some (.int p.1),some (.int p.2)],rfl,rfl⟩
     unfold fQ
     show (match (aJ _ _) [Sv.ro (aG v),.ow (aG f),.ro (aG (a::r))] with
      | .nx ρ'=>fQ _ _ m ρ'
      | o=>o)=_
     rw [e1]
     show fQ _ _ m _=_
     rw [ih (diffs (a::r)) (f++[a]) m (by rw [h9,hr]; rfl) (by omega) (by simp; omega),vQ,List.append_assoc]
     rfl
 refine hJ rfl (eB [.ro (aG v),.ow (aG []),.no] rfl (eB [.ro (aG v),.ow (aG []),.ro (aG v)] rfl (eB [.ro (aG v),.ow (aG (fd v)),.ro (aG [])] ?_ (iG rfl))))
 exact step v.length v [] C2 rfl (by unfold C2; omega) (by simp; omega)
noncomputable def ev (k:Int):List Int->Int
 | []=>0
 | a::l=>a+k*ev k l
theorem DS (k:Int):∀ {a b:List Int},a.length=b.length->ev k (gT a b)=ev k a+ev k b
 | [],[],_=>rfl
 | [],_::_,h=>by simp at h
 | _::_,[],h=>by simp at h
 | x::a,y::b,h=>by
  have ih:=DS k (a:=a) (b:=b) (by simpa using h)
  show x+y+k*ev k (gT a b)=x+k*ev k a+(y+k*ev k b)
  rw [ih,Int.mul_add]
  omega
theorem QY (x:List (List Int)) (a:List Int):(aN x a).length<=x.length:=by
 unfold aN
 have h1:=List.length_filter_le (fun t=>(row x t).all fun l=>a.contains l) ((aR 0 x.length).filter fun t=>!a.contains t)
 have h2:=List.length_filter_le (fun t=>!a.contains t) (aR 0 x.length)
 rw [aO] at h2
 omega
theorem QZ {x:List (List Int)} (hx:x.length<=9):∀ (m:Nat) (a:List Int) (l:Int),∀ y∈Sh x m a l,0<=y/\y<=9 ^ m
 | 0,a,l,y,hy=>by
  unfold Sh xV at hy
  rcases List.mem_cons.1 hy with e | e
  ·subst e; decide
  ·rw [List.eq_of_mem_replicate e]; decide
 | m+1,a,l,y,hy=>by
  have ih:=QZ hx m
  have go:∀ (ts:List Int) (acc:List Int) (c:Int),0<=c->(∀ y∈acc,0<=y/\y<=c*9 ^ m) -> ∀ y∈ts.foldl (fun acc t=>gT acc (if t<l then kD (Sh x m (aK a t) t) else Sh x m (aK a t) t)) acc,0<=y/\y<=(c+ts.length)*9 ^ m:=by
   intro ts
   induction ts with
   | nil=>intro acc c hc h; simpa using h
   | cons t ts iht =>
    intro acc c hc h
    rw [List.foldl_cons]
    have:=iht (gT acc (if t<l then kD (Sh x m (aK a t) t) else Sh x m (aK a t) t)) (c+1) (by omega) ?_
    ·rw [List.length_cons]
     rw [show c+((ts.length+1:Nat):Int)=c+1+ts.length by omega]
     exact this
    ·intro y hy
     unfold gT at hy
     obtain ⟨p,hp,rfl⟩:=List.mem_map.1 hy
     obtain ⟨m1,m2⟩:=List.of_mem_zip hp
     have g1:=h _ m1
     have g2:0<=p.2/\p.2<=9 ^ m:=by
      split at m2
      ·unfold kD at m2
       rcases List.mem_cons.1 m2 with e | e
       ·rw [e]; exact ⟨by decide,Int.le_of_lt (Int.pow_pos (by decide))⟩
       ·exact ih _ _ _ (List.dropLast_subset _ e)
      ·exact ih _ _ _ m2
     rw [Int.add_mul,Int.one_mul]
     omega
  unfold Sh at hy
  have:=go (aN x a) (xW x.length) 0 (by decide) (fun y hy=>by
   rw [List.eq_of_mem_replicate hy]
   simp) y hy
  refine ⟨this.1,Int.le_trans this.2 ?_⟩
  rw [Int.zero_add,Int.pow_succ,Int.mul_comm]
  have h1:=QY x a
  exact Int.mul_le_mul_of_nonneg_left (by omega) (Int.le_of_lt (Int.pow_pos (by decide)))
theorem kF {x:List (List Int)} (hx:x.length<=9):∀ y∈shares x,0<=y/\y<=387420489:=fun y hy=>by
 have h:=QZ hx x.length [] 0 y hy
 refine ⟨h.1,Int.le_trans h.2 ?_⟩
 have:∀ n,n<=9->(9:Int) ^ n<=387420489:=by decide
 exact this _ hx
theorem aW (x:List (List Int)):(shares x).length=max x.length 1:=iM x _ _ _
theorem qP {x:List (List Int)} (hx:x.length<=9):∀ y∈shares x,Bg 30 y:=fun y hy=>by
 have:=kF hx y hy
 show y.natAbs<1073741824
 omega
theorem Q0 {x:List (List Int)} (hx:x.length<=9) (hr:∀ r∈x,r.length<=9) {k:Int} (hk:Bg 208 k):gR [aV x,.int k]=.ok (.int (DV x.length 0 (shares x) k)):=by
 unfold gR
 refine hJ rfl (iG (lM (h8 rfl (pA hx hr)) (eX rfl eD) rfl (uL (by rw [aW]; omega) (fun y hy=>?_) (by omega) hk)))
 have:=kF hx y hy
 omega
theorem mE (f:Int->Int):∀ (n:Nat) (x:Int),vals f n x=(aR x n).map f
 | 0,x=>rfl
 | n+1,x=>by
  have ih:=mE f n (x+1)
  show f x::vals f n (x+1)=_
  rw [ih]
  unfold aR
  rw [List.range_succ_eq_map,List.map_cons,List.map_cons,List.map_map,List.map_map,List.map_map]
  simp only [Int.ofNat_zero,Int.add_zero]
  congr 1
  refine List.map_congr_left fun j _=>?_
  simp only [Function.comp]
  congr 1
  omega
noncomputable def aP (x:List (List Int)):List Int:=fd (vals (DV x.length 0 (shares x)) (x.length+1) 0)
theorem GC {x:List (List Int)} (hx:x.length<=9) (hr:∀ r∈x,r.length<=9):cN [aV x]=.ok (tupI (aP x)):=by
 unfold cN aP
 refine hJ rfl (eB [.ro (aV x),.ro (.int x.length),.no] (fV (.int x.length) (eX rfl eD) rfl) (eB [.ro (aV x),.ro (.int x.length),.ro (tupI (shares x))] (fV _ (h8 rfl (pA hx hr)) rfl) (iG (h8 (x:=aG (vals (DV x.length 0 (shares x)) (x.length+1) 0)) ?_ (QX (by rw [lA]; omega))))))
 rw [mE]
 have e5:aG ((aR 0 (x.length+1)).map (DV x.length 0 (shares x)))=.lst ((aR 0 (x.length+1)).map fun k=>D.int (DV x.length 0 (shares x) k)):=by unfold aG; rw [List.map_map]; rfl
 rw [e5]
 refine i8 ((aR 0 (x.length+1)).map D.int) (QF (n:=x.length+1) rfl (by omega)) (by rw [List.length_map,aO]; omega) ?_
 refine fI D.int (fun k=>.int (DV x.length 0 (shares x) k)) _ fun k hk=>⟨[some (.int k),some (tupI (shares x)),some (.int x.length)],rfl,lM rfl rfl rfl (uL (by rw [aW]; omega) (fun y hy=>?_) (by omega) ?_)⟩
 ·have:=kF hx y hy
  omega
 ·have:=bI.1 hk
  have h:k.natAbs<2 ^ 10:=by omega
  exact Nat.lt_of_lt_of_le h (Nat.pow_le_pow_right (by decide) (by decide))
noncomputable def BF:Nat->List Int
 | 0=>[1]
 | m+1=>gT (BF m++[0]) (0::BF m)
theorem qQ:∀ m,(BF m).length=m+1
 | 0=>rfl
 | m+1=>by rw [BF,eF (by simp),List.length_append,qQ m]; rfl
theorem rX {a b:List Int} {j:Nat} {y z:Int} (h1:a[j]? = some y) (h2:b[j]? = some z):(gT a b)[j]? = some (y+z):=by
 unfold gT
 rw [List.getElem?_map,List.getElem?_zip_eq_some (z:=(y,z)) |>.2 ⟨h1,h2⟩]
 rfl
theorem DT:∀ (m i:Nat),i<=m->(BF m)[i]? = some (C m i)
 | 0,i,h=>by
  have:i=0:=by omega
  subst this
  rfl
 | m+1,i,h=>by
  have hl:=qQ m
  have a1:(BF m++[0])[i]? = some (C m i):=by
   by_cases hi:i<=m
   ·rw [List.getElem?_append_left (by omega)]; exact DT m i hi
   ·rw [List.getElem?_append_right (by omega),show i - (BF m).length=0 by omega,IW (by omega) (by omega)]
    rfl
  cases i with
  | zero =>
   rw [BF,rX a1 (show (0::BF m)[0]? = some 0 from rfl)]
   rfl
  | succ i =>
   rw [BF,rX a1 (show (0::BF m)[i+1]? = some (C m i) from DT m i (by omega)),show ((m+1:Nat):Int)=(m:Int)+1 from rfl,xS]
theorem DU (k:Int):∀ {a b:List Int} {e:Nat},a.length=b.length->SV e (gT a b) k=SV e a k+SV e b k
 | [],[],e,_=>rfl
 | [],_::_,e,h=>by simp at h
 | _::_,[],e,h=>by simp at h
 | x::a,y::b,e,h=>by
  have ih:=DU k (a:=a) (b:=b) (e:=e+1) (by simpa using h)
  show (x+y)*C k e+SV (e+1) (gT a b) k=x*C k e+SV (e+1) a k+(y*C k e+SV (e+1) b k)
  rw [ih,Int.add_mul]
  omega
theorem Q1 (k:Int):∀ (a:List Int) (e:Nat),SV e (a++[0]) k=SV e a k
 | [],e=>by simp [SV]
 | x::a,e=>by
  have:=Q1 k a (e+1)
  show x*C k e+SV (e+1) (a++[0]) k=x*C k e+SV (e+1) a k
  rw [this]
theorem GD (k:Int) (l:List Int):∀ (d e:Nat),SV e (List.replicate d 0++l) k=SV (e+d) l k
 | 0,e=>rfl
 | d+1,e=>by
  rw [List.replicate_succ,List.cons_append]
  show 0*C k e+SV (e+1) (List.replicate d 0++l) k=_
  rw [GD k l d (e+1),Int.zero_mul,Int.zero_add]
  congr 1
  omega
theorem vander (k:Int):∀ (m e:Nat),SV e (BF m) k=C (k+m) (e+m)
 | 0,e=>by
  show 1*C k e+0=C (k+0) e
  rw [Int.one_mul,Int.add_zero,Int.add_zero]
 | m+1,e=>by
  rw [BF,DU k (by simp),Q1,vander k m e]
  show C (k+m) (e+m)+(0*C k e+SV (e+1) (BF m) k)=_
  rw [vander k m (e+1),Int.zero_mul,Int.zero_add,show k+((m+1:Nat):Int)=k+m+1 by omega,show e+(m+1)=(e+m)+1 by omega,xS,show e+1+m=e+m+1 by omega,Int.add_comm]
theorem Q2 (k s:Int):∀ (l:List Int) (e:Nat),SV e (l.map fun y=>s*y) k=s*SV e l k
 | [],e=>by simp [SV]
 | y::l,e=>by
  have:=Q2 k s l (e+1)
  show s*y*C k e+SV (e+1) (l.map fun y=>s*y) k=s*(y*C k e+SV (e+1) l k)
  rw [this,Int.mul_add,Int.mul_assoc]
noncomputable def rY (n d:Nat):List Int:=List.replicate (d+1) 0++BF (n - 1 - d)
theorem jR {n d:Nat} (h:d<n):(rY n d).length=n+1:=by unfold rY; rw [List.length_append,List.length_replicate,qQ]; omega
noncomputable def stL (n:Nat):List Int->Nat->List Int
 | [],_=>List.replicate (n+1) 0
 | s::w,d=>gT ((rY n d).map fun y=>s*y) (stL n w (d+1))
theorem kG {n:Nat}:∀ {w:List Int} {d:Nat},d+w.length<=n->(stL n w d).length=n+1
 | [],d,_=>by simp [stL]
 | s::w,d,h=>by
  rw [List.length_cons] at h
  have:=kG (n:=n) (w:=w) (d:=d+1) (by omega)
  rw [stL,eF (by rw [List.length_map,jR (by omega),this]),List.length_map,jR (by omega)]
theorem Q4 (k:Int):∀ (m e:Nat),SV e (List.replicate m 0) k=0
 | 0,e=>rfl
 | m+1,e=>by
  rw [List.replicate_succ]
  show 0*C k e+SV (e+1) (List.replicate m 0) k=0
  rw [Q4 k m (e+1),Int.zero_mul]
  rfl
theorem LS {n:Nat} (k:Int):∀ {w:List Int} {d:Nat},d+w.length<=n->SV 0 (stL n w d) k=DV n d w k
 | [],d,_=>Q4 k _ _
 | s::w,d,h=>by
  rw [List.length_cons] at h
  have hl:=kG (n:=n) (w:=w) (d:=d+1) (by omega)
  rw [stL,DU k (by rw [List.length_map,jR (by omega),hl]),Q2,LS k (w:=w) (d:=d+1) (by omega)]
  show s*SV 0 (rY n d) k+DV n ((d:Int)+1) w k=s*C (k+n - 1 - d) n+DV n ((d:Int)+1) w k
  unfold rY
  rw [GD,vander,show 0+(d+1)+(n - 1 - d)=n by omega,show k+((n - 1 - d:Nat):Int)=k+n - 1 - d by omega]
theorem GF {w:List Int} {n:Nat} (h:w.length=n):fd (vals (DV n 0 w) (n+1) 0)=stL n w 0:=by
 have e:=YK (stL n w 0)
 rw [kG (by omega)] at e
 rw [<- e]
 congr 1
 exact xU (fun k=>(LS (n:=n) k (w:=w) (d:=0) (by omega)).symm) _ _
noncomputable def Q5 (n j:Nat):List Int->Nat->Int
 | [],_=>0
 | s::w,d=>s*(if d<j then C ((n:Int) - 1 - d) (j - 1 - d) else 0)+Q5 n j w (d+1)
theorem NL {n d j:Nat} (hd:d<n) (hj:j<=n):(rY n d)[j]? = some (if d<j then C ((n:Int) - 1 - d) (j - 1 - d) else 0):=by
 unfold rY
 by_cases h:d<j
 ·rw [List.getElem?_append_right (by simp; omega),List.length_replicate,DT _ _ (by omega),if_pos h,show ((n - 1 - d:Nat):Int)=(n:Int) - 1 - d by omega,show j - (d+1)=j - 1 - d by omega]
 ·rw [List.getElem?_append_left (by simp; omega),List.getElem?_replicate,if_pos (by omega),if_neg h]
theorem LU {n j:Nat} (hj:j<=n):∀ {w:List Int} {d:Nat},d+w.length<=n->(stL n w d)[j]? = some (Q5 n j w d)
 | [],d,_=>by rw [stL,List.getElem?_replicate,if_pos (by omega)]; rfl
 | s::w,d,h=>by
  rw [List.length_cons] at h
  rw [stL,rX (y:=s*(if d<j then C ((n:Int) - 1 - d) (j - 1 - d) else 0)) (by rw [List.getElem?_map,NL (by omega) hj]; rfl) (LU hj (w:=w) (d:=d+1) (by omega))]
  rfl
section
variable (x:List (List Int))
noncomputable def Nj (f:List Int->Int->Nat->Int):Nat->List Int->Int->Int
 | 0,_,_=>0
 | j+1,a,l=>Nj f j a (-1)+(((aN x a).filter fun t=>decide (l<t)).map fun t=>f (aK a t) t (j+1)).sum
noncomputable def Nn:Nat->List Int->Int->Nat->Int
 | 0,_,_,_=>1
 | m+1,a,l,j=>Nj x (Nn m) j a l
end
noncomputable def Zr (w:List Int) (m:Nat):Prop:=∀ (d:Nat) (y:Int),w[d]? = some y->m<d->y=0
theorem Zr.mono {w:List Int} {m k:Nat} (h:Zr w m) (hk:m<=k):Zr w k:=fun d y e hd=>h d y e (by omega)
theorem Zr.add {a b:List Int} {m:Nat} (ha:Zr a m) (hb:Zr b m):Zr (gT a b) m:=fun d y e hd=>by
 unfold gT at e
 rw [List.getElem?_map] at e
 obtain ⟨p,ep,rfl⟩:=Option.map_eq_some_iff.1 e
 obtain ⟨e1,e2⟩:=List.getElem?_zip_eq_some.1 ep
 rw [ha d _ e1 hd,hb d _ e2 hd]
 rfl
theorem Zr.shl {w:List Int} {m:Nat} (h:Zr w m):Zr (kD w) (m+1):=fun d y e hd=>by
 cases d with
 | zero=>omega
 | succ d =>
  have e:w.dropLast[d]? = some y:=e
  rw [List.getElem?_dropLast] at e
  split at e
  ·exact h d y e (by omega)
  ·cases e
theorem Zr.xW (n m:Nat):Zr (xW n) m:=fun d y e _=>by
 unfold LL.xW at e
 rw [List.getElem?_replicate] at e
 split at e
 ·cases e; rfl
 ·cases e
theorem Zr.fold {x:List (List Int)} {m k:Nat} {a:List Int} {l:Int} (h:∀ t,Zr (if t<l then kD (Sh x m (aK a t) t) else Sh x m (aK a t) t) k):∀ (ts acc:List Int),Zr acc k->Zr (ts.foldl (iH x m a l) acc) k
 | [],acc,hz=>hz
 | t::ts,acc,hz=>Zr.fold h ts _ (hz.add (h t))
theorem m3 (x:List (List Int)) (m:Nat) (a:List Int) (l:Int):Sh x (m+1) a l=(aN x a).foldl (iH x m a l) (xW x.length):=rfl
theorem LV (x:List (List Int)):∀ (m:Nat) (a:List Int) (l:Int),Zr (Sh x m a l) m
 | 0,a,l=>fun d y e hd=>by
  cases d with
  | zero=>omega
  | succ d =>
   have e:(List.replicate (max x.length 1 - 1) (0:Int))[d]? = some y:=e
   rw [List.getElem?_replicate] at e
   split at e
   ·cases e; rfl
   ·cases e
 | m+1,a,l=>by
  rw [m3]
  refine Zr.fold (fun t=>?_) _ _ (Zr.xW _ _)
  split
  ·exact (LV x m _ _).shl
  ·exact (LV x m _ _).mono (by omega)
theorem rZ {x:List (List Int)} {a:List Int} {t:Int} (h:t∈aN x a):0<=t:=(eI h).1.1
theorem fold_congr {α β:Type} {f g:β->α->β}:∀ (l:List α) (b:β),(∀ b,∀ t∈l,f b t=g b t)->l.foldl f b=l.foldl g b
 | [],b,_=>rfl
 | t::l,b,h=>by rw [List.foldl_cons,List.foldl_cons,h b t List.mem_cons_self]; exact fold_congr l _ fun b u hu=>h b u (List.mem_cons_of_mem _ hu)
theorem Q6 (x:List (List Int)) (m:Nat) (a:List Int) {l l':Int} (h:l<=0) (h':l'<=0):Sh x m a l=Sh x m a l':=by
 cases m with
 | zero=>rfl
 | succ m =>
  rw [m3,m3]
  refine fold_congr _ _ fun acc t ht=>?_
  have:=rZ ht
  unfold iH
  rw [if_neg (by omega),if_neg (by omega)]
theorem ZU (x:List (List Int)) (m:Nat) (a:List Int):Zr (Sh x (m+1) a (-1)) m:=by
 rw [m3]
 have e:(aN x a).foldl (iH x m a (-1)) (xW x.length)=(aN x a).foldl (fun acc t=>gT acc (Sh x m (aK a t) t)) (xW x.length):=fold_congr _ _ fun acc t ht=>by
  have:=rZ ht
  unfold iH
  rw [if_neg (by omega)]
 rw [e]
 have go:∀ (ts acc:List Int),Zr acc m->Zr (ts.foldl (fun acc t=>gT acc (Sh x m (aK a t) t)) acc) m:=by
  intro ts
  induction ts with
  | nil=>intro acc h; exact h
  | cons t ts ih=>intro acc h; exact ih _ (h.add (LV x m _ _))
 exact go _ _ (Zr.xW _ _)
theorem Q7 {n:Nat} {k:Int}:∀ {a b:List Int} {d:Int},a.length=b.length->DV n d (gT a b) k=DV n d a k+DV n d b k
 | [],[],d,_=>rfl
 | [],_::_,d,h=>by simp at h
 | _::_,[],d,h=>by simp at h
 | y::a,z::b,d,h=>by
  have ih:=Q7 (n:=n) (k:=k) (a:=a) (b:=b) (d:=d+1) (by simpa using h)
  show (y+z)*C (k+n - 1 - d) n+DV n (d+1) (gT a b) k=y*C (k+n - 1 - d) n+DV n (d+1) a k+(z*C (k+n - 1 - d) n+DV n (d+1) b k)
  rw [ih,Int.add_mul]
  omega
theorem DW {n:Nat} {k:Int}:∀ (m:Nat) (d:Int),DV n d (List.replicate m 0) k=0
 | 0,d=>rfl
 | m+1,d=>by
  rw [List.replicate_succ]
  show 0*_+DV n (d+1) (List.replicate m 0) k=0
  rw [DW m (d+1),Int.zero_mul]
  rfl
theorem YO {m:Nat} {j:Int}:∀ (w:List Int) (d:Int),DV (m+1) d w (j+1)=DV (m+1) d w j+DV m d w (j+1)
 | [],d=>rfl
 | y::w,d=>by
  have ih:=YO (m:=m) (j:=j) w (d+1)
  show y*C (j+1+((m+1:Nat):Int) - 1 - d) (m+1)+DV (m+1) (d+1) w (j+1)=y*C (j+((m+1:Nat):Int) - 1 - d) (m+1)+DV (m+1) (d+1) w j+(y*C (j+1+(m:Int) - 1 - d) m+DV m (d+1) w (j+1))
  rw [ih,show j+1+((m+1:Nat):Int) - 1 - d=(j+m - d)+1 by omega,xS,show j+((m+1:Nat):Int) - 1 - d=j+m - d by omega,show j+1+(m:Int) - 1 - d=j+m - d by omega,Int.mul_add]
  omega
theorem LW {n:Nat} {k:Int}:∀ (w:List Int) (d:Int),DV n (d+1) w (k+1)=DV n d w k
 | [],d=>rfl
 | y::w,d=>by
  have ih:=LW (n:=n) (k:=k) w (d+1)
  show y*C (k+1+n - 1 - (d+1)) n+DV n (d+1+1) w (k+1)=y*C (k+n - 1 - d) n+DV n (d+1) w k
  rw [ih,show k+1+n - 1 - (d+1)=k+n - 1 - d by omega]
theorem ZV {n:Nat} {k:Int} {w:List Int} (h:w.getLast? = some 0):DV n 0 (kD w) (k+1)=DV n 0 w k:=by
 show 0*_+DV n (0+1) w.dropLast (k+1)=_
 rw [LW,Int.zero_mul,Int.zero_add]
 have e:w=w.dropLast++[0]:=by
  obtain ⟨l,hl⟩:=List.getLast?_eq_some_iff.1 h
  rw [hl]
  simp
 conv=>rhs; rw [e]
 rw [BA]
 show _=_+(0*_+0)
 rw [Int.zero_mul]
 omega
theorem aCI {m:Nat}:∀ (w:List Int) (d:Nat),(∀ (i:Nat) (y:Int),w[i]? = some y->m<d+i->y=0)->DV (m+1) d w 0=0
 | [],d,_=>rfl
 | y::w,d,h=>by
  have ih:=aCI (m:=m) w (d+1) fun i z e hi=>h (i+1) z (by simpa using e) (by omega)
  show y*C (0+((m+1:Nat):Int) - 1 - d) (m+1)+DV (m+1) ((d:Int)+1) w 0=0
  rw [show ((d:Int)+1)=((d+1:Nat):Int) from rfl,ih,Int.add_zero]
  by_cases hd:m<d
  ·rw [h 0 y rfl (by omega),Int.zero_mul]
  ·rw [IW (by omega) (by omega),Int.mul_zero]
theorem DX {x:List (List Int)} {n m:Nat} {a:List Int} {l:Int} {k:Int}:∀ (ts acc:List Int),acc.length=max x.length 1->DV n 0 (ts.foldl (iH x m a l) acc) k=DV n 0 acc k+(ts.map fun t=>DV n 0 (if t<l then kD (Sh x m (aK a t) t) else Sh x m (aK a t) t) k).sum
 | [],acc,_=>by simp
 | t::ts,acc,h=>by
  have hS:=iM x m (aK a t) t
  have hl:acc.length=(if t<l then kD (Sh x m (aK a t) t) else Sh x m (aK a t) t).length:=by
   rw [h]
   split
   ·rw [lB (by omega)]; exact hS.symm
   ·exact hS.symm
  have ih:=DX (x:=x) (n:=n) (m:=m) (a:=a) (l:=l) (k:=k) ts (iH x m a l acc t) (by unfold iH; rw [eF hl,h])
  rw [List.foldl_cons,ih,List.map_cons,List.sum_cons]
  unfold iH
  rw [Q7 hl]
  omega
theorem LX {α:Type} {f g h:α->Int} {p:α->Bool}:∀ l:List α,(∀ t∈l,f t=g t+if p t=true then h t else 0)->(l.map f).sum=(l.map g).sum+((l.filter p).map h).sum
 | [],_=>rfl
 | t::l,e=>by
  have ih:=LX l fun u hu=>e u (List.mem_cons_of_mem _ hu)
  have e0:=e t List.mem_cons_self
  rw [List.map_cons,List.sum_cons,List.map_cons,List.sum_cons,ih,e0,List.filter_cons]
  cases p t with
  | true=>simp; omega
  | false=>simp; omega
theorem gE {a:List Int} {t u:Int}:u∈aK a t↔u∈a\/u=t:=by
 unfold aK
 rw [(sortI_perm (a++[t])).mem_iff]
 simp
theorem nR (a:List Int) (t:Int):(aK a t).length=a.length+1:=by
 unfold aK
 rw [(sortI_perm (a++[t])).length_eq]
 simp
theorem ZW {x:List (List Int)} {j:Int}:DV 0 0 (xV x.length) j=1:=by
 unfold xV
 show 1*C _ 0+DV 0 (0+1) (List.replicate _ 0) j=1
 rw [DW,xR]
 rfl
theorem DY {x:List (List Int)}:∀ (m j:Nat) (a:List Int) (l:Int),a.length+m=x.length->(l=-1\/l∈a)->(1<=j\/l=-1)->Nn x m a l j=DV m 0 (Sh x m a l) j
 | 0,j,a,l,_,_,_=>ZW.symm
 | m+1,0,a,l,hl,hm,hj=>by
  have:l=-1:=by omega
  subst this
  show 0=_
  exact (aCI (m:=m) (Sh x (m+1) a (-1)) 0 fun i y e hi=>ZU x m a i y e (by omega)).symm
 | m+1,j+1,a,l,hl,hm,hj=>by
  have ihj:=DY (x:=x) (m+1) j a (-1) hl (.inl rfl) (.inr rfl)
  have ihm:∀ t,Nn x m (aK a t) t (j+1)=DV m 0 (Sh x m (aK a t) t) ((j:Int)+1):=fun t=>DY (x:=x) m (j+1) (aK a t) t (by rw [nR]; omega) (.inr (gE.2 (.inr rfl))) (.inl (by omega))
  show Nj x (Nn x m) j a (-1)+(((aN x a).filter fun t=>decide (l<t)).map fun t=>Nn x m (aK a t) t (j+1)).sum=_
  have e1:Nj x (Nn x m) j a (-1)=Nn x (m+1) a (-1) j:=rfl
  rw [e1,ihj,m3,m3,DX _ _ (kE _),DX _ _ (kE _)]
  unfold xW
  rw [DW,DW,Int.zero_add,Int.zero_add]
  have key:∀ t∈aN x a,DV (m+1) 0 (if t<l then kD (Sh x m (aK a t) t) else Sh x m (aK a t) t) (((j+1:Nat):Int))=DV (m+1) 0 (if t < -1 then kD (Sh x m (aK a t) t) else Sh x m (aK a t) t) j+if decide (l<t)=true then Nn x m (aK a t) t (j+1) else 0:=fun t ht=>by
   have t0:=rZ ht
   have tn:=(eI ht).2
   rw [if_neg (show ¬ t < -1 by omega),ihm,show (((j+1:Nat):Int))=(j:Int)+1 from rfl]
   by_cases h:t<l
   ·rw [if_pos h,if_neg (by simp; omega),Int.add_zero]
    refine ZV ?_
    have la:l∈a:=hm.resolve_left (by omega)
    have a1:1<=a.length:=by cases a with
     | nil=>cases la
     | cons _ _=>simp
    have hS:=iM x m (aK a t) t
    have hz:=LV x m (aK a t) t
    rw [List.getLast?_eq_getElem?,hS]
    have hlt:max x.length 1 - 1<(Sh x m (aK a t) t).length:=by omega
    rw [List.getElem?_eq_getElem hlt]
    congr 1
    exact hz _ _ (List.getElem?_eq_getElem hlt) (by omega)
   ·have ne:t≠l:=fun z=>by
     rcases hm with q | q
     ·omega
     ·exact tn (z▸q)
    rw [if_neg h,if_pos (by simp; omega)]
    exact YO _ _
  rw [LX (f:=fun t=>DV (m+1) 0 (if t<l then kD (Sh x m (aK a t) t) else Sh x m (aK a t) t) (((j+1:Nat):Int))) (g:=fun t=>DV (m+1) 0 (if t < -1 then kD (Sh x m (aK a t) t) else Sh x m (aK a t) t) j) (h:=fun t=>Nn x m (aK a t) t (j+1)) (p:=fun t=>decide (l<t)) _ key]
theorem tY (x:List (List Int)) (k:Nat):Nn x x.length [] (-1) k=DV x.length 0 (shares x) k:=by
 rw [DY x.length k [] (-1) (by simp) (.inl rfl) (.inr rfl)]
 unfold shares
 rw [Q6 x x.length [] (l:=-1) (l':=0) (by decide) (by decide)]
section
variable (x:List (List Int))
end
section
variable {x:List (List Int)}
theorem GG {a b:List Int} (h:∀ t,t∈a↔t∈b):aN x a=aN x b:=by
 have hc:∀ t,a.contains t=b.contains t:=fun t=>by
  rw [Bool.eq_iff_iff]
  simp [h t]
 unfold aN
 simp only [hc]
theorem Q8 (a:List Int):(aN x a).Nodup:=List.Pairwise.filter _ (List.Pairwise.filter _ (QP x.length))
end
noncomputable abbrev Tab:=List (Nat×Int)
structure Okt (n:Nat) (A:Tab):Prop where
 nd:(A.map (·.1)).Nodup
 lt:∀ q∈A,q.1<2 ^ n
section
variable (x:List (List Int))
end
section
variable {x:List (List Int)}
end
section
variable {x:List (List Int)}
end
end LL
end
section
namespace nC
open PySem L3 L4
noncomputable def u0:gH:=cM 3 2
  (aJ (aT 2 (cB bY (aA (aB 0) aC)))
  (bD (cB C0 (aA (bV 1 [0,2,1] (aU (aA (aB 2) aC)) (g1 0) cL (aE mulM (aE fA (aB 1) (aB 0)) (aI LL.dM (aA (aE dZ (aE dZ (aE bO (aB 3) (aB 2)) (eC (.int 1))) (aB 0)) (aA (aB 2) aC))))) aC))))
noncomputable def DZ:gH:=cM 2 2
  (bD (cB C0 (aA (bV 1 [0,1] (aU (aA (cB bY (aA (aB 0) aC)) aC)) (g1 0) cL (aE mulM (aE fA (aB 1) (aB 0)) (aI LL.dM (aA (aB 2) (aA (aB 0) aC))))) aC)))
noncomputable def fW:gH:=cM 4 2
  (aJ (aT 2 (eC (.int 0)))
  (aJ (dQ (M9 (aA (aB 0) aC)) (j8 3)
   (aT 2 (aE bO (aE mulM (aB 2) (aB 1)) (aB 3))))
  (bD (aB 2))))
noncomputable def AK:gH:=cM 3 1
  (aJ (aT 1 (eC (.int 1)))
  (aJ (dQ (aU (aA (aB 0) aC)) (j8 2)
   (aT 1 (aE mulM (aB 1) (aE bO (aB 2) (eC (.int 1))))))
  (bD (aB 1))))
noncomputable def AL:gH:=cM 7 5
  (aJ (aT 5 (aI LL.gR (aA (aB 0) (aA (aB 4) aC))))
  (aJ (iF (FE (jL (tV (j5 "int" (aB 5)))) (tV (j5 "bool" (aB 5))))
   (bD (eC (.bl false)))
   eJ)
  (aJ (aT 6 (eC (.int 1)))
  (aJ (iF (tV (aE AG (cB bY (aA (aB 0) aC)) (eC (.int 0))))
   (aT 6 (aI u0 (aA (aB 1) (aA (aB 4) aC))))
   eJ)
  (aJ (iF (FE (tV (aE U0 (aB 5) (aB 6))) (tV (aE U0 (aI DZ (aA (aB 2) (aA (aB 4) aC))) (aB 5))))
   (bD (eC (.bl false)))
   eJ)
  (bD (aE tG (aI fW (aA (aB 3) (aA (aB 4) aC))) (aE mulM (aB 5) (aI AK (aA (cB bY (aA (aB 0) aC)) aC))))))))))
noncomputable def rR:gH:=cM 10 1
  (aJ (aT 1 (aI LL.fG (aA (aB 0) (aA (eC (.int 0)) (aA (eC (.int 9)) (aA (eC (.int 100003)) aC))))))
  (aJ (aT 2 (cB bY (aA (aB 1) aC)))
  (aJ (aT 3 (aI LL.aS (aA (aB 1) aC)))
  (aJ (aT 4 (aI LL.cN (aA (aB 1) aC)))
  (aJ (aT 5 (aI LL.DQ (aA (aB 1) aC)))
  (aJ (iF (FE (jL (tV (aI LL.tX (aA (aB 3) (aA (cB p6 (aA (eC (.int 1)) (aA (aB 2) aC))) aC))))) (FE (jL (tV (aI LL.tX (aA (aB 4) (aA (aE bO (aB 2) (eC (.int 1))) aC))))) (jL (tV (aI LL.tX (aA (aB 5) (aA (aE bO (aB 2) (eC (.int 1))) aC)))))))
   (bD (eC (.bl false)))
   eJ)
  (aJ (iF (FE (tV (aE U7 (cB YI (aA (aB 3) aC)) (eC (.int 0)))) (FE (tV (aE U7 (cB YI (aA (aB 4) aC)) (eC (.int 0)))) (FE (tV (aE U0 (cB aBw (aA (aB 3) aC)) (aE fA (aB 4) (CZ (eC (.int 1)))))) (tV (aE U0 (aE fA (aB 5) (CZ (eC (.int 1)))) (aE fA (aB 4) (CZ (eC (.int 1)))))))))
   (bD (eC (.bl false)))
   eJ)
  (aJ (aT 6 (aE iJ (aE fA (aI LL.fF (aA (aI LL.fD (aA (aB 0) (aA (eC (.int 2)) aC))) (aA (eC (.int 1)) (aA (eC (.int 200017)) aC)))) (eC (.int 0))) (eC (.int 5))))
  (aJ (dQ (cU (lJ (aA (aB 6) (aA (aI LL.NI (aA (aB 0) (aA (eC (.int 3)) (aA (eC (.int 300007)) aC)))) aC)))) (j8 7)
   (iF (jL (tV (aI AL (aA (aB 1) (aA (aB 3) (aA (aB 4) (aA (aB 5) (aA (aB 7) aC))))))))
    (bD (eC (.bl false)))
    eJ))
  (aJ (iF (tV (aE tG (aB 2) (eC (.int 0))))
   (bD (aE aBv (aB 4) (lJ (aA (eC (.int 1)) aC))))
   eJ)
  (aJ (hW 8 (eW (aA (eC (.int 0)) aC)))
  (aJ (dQ (aU (aA (eC (.int 1)) (aA (aE bO (aB 2) (eC (.int 1))) aC))) (j8 9)
   (sX (rH 8 iK (bT (cB C0 (aA (bV 1 [3,2,9] (aU (aA (aB 9) aC)) (g1 0) cL (aE mulM (aE fA (aB 1) (aB 0)) (aI LL.dM (aA (aE dZ (aE dZ (aB 2) (eC (.int 1))) (aB 0)) (aA (aE dZ (aE dZ (aB 3) (eC (.int 1))) (aB 0)) aC))))) aC))))))
  (bD (aE aG5 (cB P1 (aA (aB 4) aC)) (aB 8)))))))))))))))
end nC
end
section
namespace nC
open PySem L3 L4 K24 LL
theorem vU {α:Type} (g:Int->Int->α) (w:List Int):w.zipIdx.map (fun p=>g p.1 p.2)=(aR 0 w.length).map fun d=>g (at0 w d) d:=by
 apply List.ext_getElem?
 intro j
 rw [List.getElem?_map,List.getElem?_map,List.getElem?_zipIdx]
 by_cases h:j<w.length
 ·rw [j9 h,List.getElem?_eq_getElem h]
  simp [at0,h]
 ·rw [List.getElem?_eq_none (by omega),List.getElem?_eq_none (by rw [aO]; omega)]
  rfl
section
variable {x:List (List Int)}
theorem I0 (k:Int):∀ m,ev k (List.replicate m 0)=0
 | 0=>rfl
 | m+1=>by rw [List.replicate_succ]; show 0+k*ev k (List.replicate m 0)=0; rw [I0 k m,Int.mul_zero]; rfl
theorem eZ (x:List (List Int)):(aP x).length=x.length+1:=BB _ _ (lA _ _ _)
theorem m4 (hx:x.length<=9):∀ y∈aP x,Bg 2500 y:=fun y hy=>by
 have hl:=aW x
 have small:∀ {z:Int},z.natAbs<1000->Bg 208 z:=fun {z} hz=>by
  have h:z.natAbs<2 ^ 10:=by omega
  exact Nat.lt_of_lt_of_le h (Nat.pow_le_pow_right (by decide) (by decide))
 refine (QT (x.length+1) 1970 _ (lA _ _ _) (fun z hz=>?_) y hy).mono (by omega)
 rw [mE] at hz
 obtain ⟨k,hk,rfl⟩:=List.mem_map.1 hz
 have hr:=bI.1 hk
 exact (IY (a:=30) (b:=1900) (fun d hd=>(QW (rW (small (by omega)) (by omega) (by omega)) (by omega)).mono (by omega)) (shares x) 0 (by omega) (qP hx)).mono (by omega)
theorem VQ (k:Int):DV 0 0 (shares []) k=1:=by
 show (1:Int)*C _ 0+0=1
 rw [xR]
 rfl
theorem GH (n:Nat):∀ (w:List Int) (d:Nat),Q5 n 0 w d=0
 | [],d=>rfl
 | s::w,d=>by
  show s*(if d<0 then _ else 0)+Q5 n 0 w (d+1)=0
  rw [if_neg (by omega),GH n w (d+1),Int.mul_zero]
  rfl
noncomputable def qR (n:Nat) (w:List Int) (i:Nat):List Int:=0::(List.range i).map fun t=>Q5 n (t+1) w 0
theorem BG {n:Nat} (hn:x.length=n) (h1:1<=n):aP x=qR n (shares x) n:=by
 have hl:(shares x).length=n:=by rw [aW]; omega
 unfold aP
 rw [hn,GF hl]
 apply List.ext_getElem?
 intro j
 by_cases hj:j<=n
 ·rw [LU hj (by omega)]
  unfold qR
  cases j with
  | zero=>rw [GH]; rfl
  | succ j=>rw [List.getElem?_cons_succ,List.getElem?_map,List.getElem?_range (by omega)]; rfl
 ·rw [List.getElem?_eq_none (by rw [kG (by omega)]; omega),List.getElem?_eq_none (by unfold qR; simp; omega)]
theorem x5:aP []=[1]:=by
 unfold aP
 rw [DP]
 show [DV 0 0 (shares []) 0]++fd (vals _ 0 0)=[1]
 rw [VQ]
 show [1]++fd []=[1]
 rw [tW]
 rfl
theorem LY (n m:Nat):aR 0 (n+m)=aR 0 n++aR n m:=by
 unfold aR
 rw [List.range_add,List.map_append,List.map_map]
 congr 1
 refine List.map_congr_left fun j _=>?_
 simp only [Function.comp]
 omega
theorem LZ (n j:Nat):∀ (w:List Int) (d:Nat),Q5 n j w d=((w.zipIdx d).map fun p=>p.1*(if p.2<j then C ((n:Int) - 1 - p.2) (j - 1 - p.2) else 0)).sum
 | [],d=>rfl
 | s::w,d=>by
  rw [List.zipIdx_cons,List.map_cons,List.sum_cons,<- LZ n j w (d+1)]
  rfl
theorem x6 {α:Type} {g:α->Int}:∀ {l:List α},(∀ a∈l,g a=0)->(l.map g).sum=0
 | [],_=>rfl
 | a::l,h=>by rw [List.map_cons,List.sum_cons,h a List.mem_cons_self,x6 fun b hb=>h b (List.mem_cons_of_mem _ hb)]; rfl
theorem VR {n j:Nat} {w:List Int} (hj:j<=w.length):Q5 n j w 0=((aR 0 j).map fun d=>at0 w d*C ((n:Int) - 1 - d) ((j:Int) - 1 - d).toNat).sum:=by
 rw [LZ,show (fun p:Int×Nat=>p.1*(if p.2<j then C ((n:Int) - 1 - p.2) (j - 1 - p.2) else 0))=fun p:Int×Nat=>(fun (a d:Int)=>a*(if d<(j:Int) then C ((n:Int) - 1 - d) ((j:Int) - 1 - d).toNat else 0)) p.1 p.2 from ?_,vU (fun (a d:Int)=>a*(if d<(j:Int) then C ((n:Int) - 1 - d) ((j:Int) - 1 - d).toNat else 0)),show w.length=j+(w.length - j) by omega,LY,List.map_append,List.sum_append,x6 (l:=aR (j:Int) (w.length - j)) (fun d hd=>?_),Int.add_zero]
 ·congr 1
  refine List.map_congr_left fun d hd=>?_
  have:=bI.1 hd
  rw [if_pos (by omega)]
 ·have:=bI.1 hd
  rw [if_neg (by omega),Int.mul_zero]
 ·funext p
  dsimp only
  by_cases h:p.2<j
  ·rw [if_pos h,if_pos (by omega),show ((j:Int) - 1 - (p.2:Int)).toNat=j - 1 - p.2 by omega]
  ·rw [if_neg h,if_neg (by omega)]
end
end nC
end
section
namespace LL
open PySem L3 L4 K24
section
variable (x:List (List Int))
noncomputable def gls:Nat->List (List Int)
 | 0=>[[]]
 | i+1=>(gls i).flatMap fun w=>(aN x w).map fun t=>w++[t]
end
section
variable {x:List (List Int)}
end
section
variable {x:List (List Int)}
noncomputable def ZX (x:List (List Int)) (w:List Int) (b:Nat):List Int:=((aR 0 b).filter fun t=>!w.contains t).filter fun t=>(row x t).all fun l=>w.contains l
theorem ff1 {α:Type} (p q:α->Bool) (b:α):([b].filter q).filter p=if (q b&&p b)=true then [b] else []:=by cases hq:q b<;>cases hp:p b<;>simp [List.filter,hq,hp]
theorem GI (w:List Int) (b:Nat):ZX x w (b+1)=ZX x w b++(if (!w.contains (b:Int)&&(row x b).all fun l=>w.contains l)=true then [(b:Int)] else []):=by
 unfold ZX
 rw [tR,List.filter_append,List.filter_append,Int.zero_add]
 congr 1
 exact ff1 _ _ _
theorem L9 (w:List Int) (b:Nat):(ZX x w b).length<=b:=by
 unfold ZX
 refine Nat.le_trans (List.length_filter_le _ _) (Nat.le_trans (List.length_filter_le _ _) ?_)
 rw [aO]
 exact Nat.le_refl _
noncomputable def kT (x:List (List Int)) (w:List Int) (b:Nat):List (List Int):=(ZX x w b).map fun t=>w++[t]
theorem x8:∀ (L:List (List Int)),(L.flatMap fun w=>kT x w x.length).length<=L.length*x.length
 | []=>by simp
 | w::L=>by
  have ih:=x8 L
  rw [List.flatMap_cons,List.length_append,List.length_cons,Nat.succ_mul]
  have:(kT x w x.length).length<=x.length:=by unfold kT; rw [List.length_map]; exact L9 w _
  omega
theorem GJ (i:Nat):gls x (i+1)=(gls x i).flatMap fun w=>kT x w x.length:=rfl
theorem Q9:∀ i,(gls x i).length<=x.length ^ i
 | 0=>by simp [gls]
 | i+1=>by
  have ih:=Q9 i
  rw [GJ,Nat.pow_succ]
  exact Nat.le_trans (x8 _) (Nat.mul_le_mul_right _ ih)
theorem RA:∀ (i:Nat) (w:List Int),w∈gls x i->w.length=i
 | 0,w,h=>by
  have:w=[]:=by simpa [gls] using h
  subst this
  rfl
 | i+1,w,h=>by
  rw [GJ] at h
  obtain ⟨u,hu,hw⟩:=List.mem_flatMap.1 h
  obtain ⟨t,_,rfl⟩:=List.mem_map.1 hw
  rw [List.length_append,RA i u hu]
  rfl
theorem NM (hx:x.length<=7) (hrw:∀ r∈x,r.length<=9):gS [aV x]=.ok (.lst ((gls x x.length).map tupI)):=by
 unfold gS
 have pb:∀ i,i<x.length->(gls x i).length<=117649:=fun i hi=>by
  refine Nat.le_trans (Q9 i) ?_
  have h1:x.length ^ i<=7 ^ i:=Nat.pow_le_pow_left hx i
  have h2:7 ^ i<=7 ^ 6:=Nat.pow_le_pow_right (by decide) (by omega)
  exact Nat.le_trans h1 h2
 have main:Rt ((aJ (aT 1 (eW (aA (lJ aC) aC)))
  (aJ (dQ (aU (aA (cB bY (aA (aB 0) aC)) aC)) (j8 2)
   (aJ (hW 3 (eW aC))
   (aJ (dQ (cU (aB 1)) (j8 4)
    (dQ (aU (aA (cB bY (aA (aB 0) aC)) aC)) (j8 5)
     (iF (uW (tV (aE (tH true) (aB 5) (aB 4))) (tV (cB allM (aA (bV 1 [4] (cU (aE fA (aB 0) (aB 5))) (g1 0) cL (aE (tH false) (aB 0) (aB 1))) aC))))
      (sX (rH 3 iK (bT (aE bO (aB 4) (lJ (aA (aB 5) aC))))))
      eJ)))
   (P7 3 (aT 1 (aB 3))))))
  (bD (aB 1)))) (eA 6 [aV x])) fun d=>d=.lst ((gls x x.length).map tupI):=by
  refine bL [.ro (aV x),.ro (.lst ((gls x 0).map tupI)),.no,.no,.no,.no] rfl ?_
  refine kA (fun ρ=>∃ v2 v3 v4 v5,ρ=[.ro (aV x),.ro (.lst ((gls x x.length).map tupI)),v2,v3,v4,v5]) ?_ fun ρ ⟨v2,v3,v4,v5,e⟩=>by subst e; exact kB _ rfl rfl
  refine jM x.length (fun i ρ=>∃ v2 v3 v4 v5,ρ=[.ro (aV x),.ro (.lst ((gls x i).map tupI)),v2,v3,v4,v5]) (args1 (eX rfl eD)) (by omega) ⟨_,_,_,_,rfl⟩ (fun i ρ hi ⟨v2,v3,v4,v5,e⟩=>?_) fun ρ h=>h
  subst e
  refine ⟨[.ro (aV x),.ro (.lst ((gls x i).map tupI)),.ro (.int i),v3,v4,v5],rfl,?_⟩
  refine mV [.ro (aV x),.ro (.lst ((gls x i).map tupI)),.ro (.int i),.ow (.lst []),v4,v5] rfl ?_
  refine DH (fun ρ=>∃ v4 v5,ρ=[.ro (aV x),.ro (.lst ((gls x i).map tupI)),.ro (.int i),.ow (.lst ((gls x (i+1)).map tupI)),v4,v5]) ?_ fun ρ hq1=>by
   obtain ⟨v4,v5,e⟩:=hq1
   subst e
   exact qM (i:=1) (f:=aB 3) (ρ:=[.ro (aV x),.ro (.lst ((gls x i).map tupI)),.ro (.int i),.ro (.lst ((gls x (i+1)).map tupI)),v4,v5]) _ rfl ⟨_,_,_,_,rfl⟩
  have hlen:=pb i hi
  refine DI ((gls x i).map tupI) (fun j ρ=>∃ v4 v5,ρ=[.ro (aV x),.ro (.lst ((gls x i).map tupI)),.ro (.int i),.ow (.lst ((((gls x i).take j).flatMap fun w=>kT x w x.length).map tupI)),v4,v5]) rfl ⟨_,_,rfl⟩ (fun j d ρ hd ⟨v4,v5,e⟩=>?_) fun ρ ⟨v4,v5,e⟩=>⟨v4,v5,by rw [e,List.length_map,List.take_of_length_le (Nat.le_refl _)]; rfl⟩
  subst e
  rw [List.getElem?_map] at hd
  obtain ⟨w,hw,rfl⟩:=Option.map_eq_some_iff.1 hd
  have hj:j<(gls x i).length:=(List.getElem?_eq_some_iff.1 hw).1
  have hwl:=RA i w (List.mem_of_getElem? hw)
  refine ⟨[.ro (aV x),.ro (.lst ((gls x i).map tupI)),.ro (.int i),.ow (.lst ((((gls x i).take j).flatMap fun w=>kT x w x.length).map tupI)),.ro (tupI w),v5],rfl,?_⟩
  generalize hA:((gls x i).take j).flatMap (fun w=>kT x w x.length)=A
  have hAl:A.length<=117649*7:=by
   rw [<- hA]
   refine Nat.le_trans (x8 _) ?_
   refine Nat.le_trans (Nat.mul_le_mul_left _ hx) (Nat.mul_le_mul_right _ ?_)
   rw [List.length_take]
   omega
  have hnext:((gls x i).take (j+1)).flatMap (fun w=>kT x w x.length)=A++kT x w x.length:=by
   rw [List.take_succ,hw,List.flatMap_append,hA]
   simp
  rw [hnext]
  refine jM x.length (fun b ρ=>∃ v5,ρ=[.ro (aV x),.ro (.lst ((gls x i).map tupI)),.ro (.int i),.ow (.lst ((A++kT x w b).map tupI)),.ro (tupI w),v5]) (args1 (eX rfl eD)) (by omega) ⟨v5,by unfold kT ZX; simp [aR]⟩ (fun b ρ hb ⟨v5,e⟩=>?_) fun ρ ⟨v5,e⟩=>⟨_,v5,e⟩
  subst e
  refine ⟨[.ro (aV x),.ro (.lst ((gls x i).map tupI)),.ro (.int i),.ow (.lst ((A++kT x w b).map tupI)),.ro (tupI w),.ro (.int b)],rfl,?_⟩
  have hrow:row x (b:Int)∈x:=by
   unfold row
   rw [show ((b:Int)).toNat=b from Int.toNat_natCast b,List.getElem?_eq_getElem hb]
   exact List.getElem_mem _
  refine FR (!w.contains (b:Int)&&(row x b).all fun l=>w.contains l) ?_ (fun hc=>?_) fun hc=>?_
  ·refine aCA (b:=!w.contains (b:Int)) (DJ (bP rfl rfl mU) rfl) (fun h=>?_) fun h=>by rw [h]; rfl
   rw [h,Bool.true_and]
   refine DJ (d:=.bl ((row x b).all fun l=>w.contains l)) (eX (x:=.lst (((row x b).map fun l=>w.contains l).map D.bl)) ?_ ?_) rfl
   ·rw [List.map_map]
    have hrl:=hrw _ hrow
    refine i8 ((row x b).map D.int) ?_ (by rw [List.length_map]; omega) ?_
    ·unfold cU
     rw [bP (g:=fA) (a:=aB 0) (b:=aB 5) (x:=aV x) (y:=.int b) rfl rfl (QJ (by omega) (by omega))]
     rfl
    ·exact fI D.int (fun l=>.bl (w.contains l)) _ fun l _=>⟨[some (.int l),some (tupI w)],rfl,bP rfl rfl mU⟩
   ·rw [DD]
    simp [List.all_map,Function.comp_def]
  ·refine ⟨_,ZT (d:=tupI (w++[(b:Int)])) (ds:=(A++kT x w b).map tupI) ?_ rfl (by rw [List.length_map,List.length_append]; have:(kT x w b).length<=b:=(by unfold kT; rw [List.length_map]; exact L9 w b); omega),.ro (.int b),?_⟩
   ·refine bP (x:=tupI w) (y:=tupI [(b:Int)]) rfl rfl ?_
    unfold tupI
    rw [rM (by simp; omega),List.map_append]
   ·have e6:kT x w (b+1)=kT x w b++[w++[(b:Int)]]:=by
     unfold kT
     rw [GI,if_pos hc,List.map_append]
     rfl
    rw [e6,<- List.append_assoc,List.map_append (l₁:=A++kT x w b)]
    rfl
  ·refine xI ⟨.ro (.int b),?_⟩
   have e6:kT x w (b+1)=kT x w b:=by
    unfold kT
    rw [GI,if_neg (by rw [hc]; decide),List.append_nil]
   rw [e6]
 obtain ⟨d,e,rfl⟩:=lL rfl main
 exact e
end
theorem sum_map_add {α:Type} (f g:α->Int):∀ L:List α,(L.map fun a=>f a+g a).sum=(L.map f).sum+(L.map g).sum
 | []=>rfl
 | a::L=>by
  have ih:=sum_map_add f g L
  simp only [List.map_cons,List.sum_cons,ih]
  omega
theorem m5 {α:Type}:∀ L:List α,(L.map fun _=>(0:Int)).sum=0
 | []=>rfl
 | a::L=>by rw [List.map_cons,List.sum_cons,m5 L]; rfl
theorem BH {α β:Type} (f:α->β->Int) (M:List β):∀ L:List α,(L.map fun a=>(M.map fun b=>f a b).sum).sum=(M.map fun b=>(L.map fun a=>f a b).sum).sum
 | []=>by simp only [List.map_nil,List.sum_nil]; rw [m5]
 | a::L=>by
  have ih:=BH f M L
  simp only [List.map_cons,List.sum_cons,ih]
  rw [<- sum_map_add]
theorem dG {α:Type} (c:Int) (f:α->Int):∀ L:List α,(L.map fun a=>c*f a).sum=c*(L.map f).sum
 | []=>by simp
 | a::L=>by
  have ih:=dG c f L
  simp only [List.map_cons,List.sum_cons,ih,Int.mul_add]
section
variable (x:List (List Int))
noncomputable def SF:Nat->List Int->Int->Int->Int
 | 0,_,_,j=>if j=0 then 1 else 0
 | m+1,a,l,j=>((aN x a).map fun t=>SF m (aK a t) t (j - if t<l then 1 else 0)).sum
end
section
variable {x:List (List Int)}
theorem RB:∀ (m:Nat) (a:List Int) (l j:Int),j<0->SF x m a l j=0
 | 0,a,l,j,h=>if_neg (by omega)
 | m+1,a,l,j,h=>by
  have e:(fun t=>SF x m (aK a t) t (j - if t<l then 1 else 0))=fun _=>0:=funext fun t=>RB m _ _ _ (by split<;>omega)
  show ((aN x a).map _).sum=0
  rw [e,m5]
theorem GK:∀ (m:Nat) {a b:List Int} (l j:Int),(∀ t,t∈a↔t∈b)->SF x m a l j=SF x m b l j
 | 0,a,b,l,j,_=>rfl
 | m+1,a,b,l,j,h=>by
  show ((aN x a).map fun t=>SF x m (aK a t) t (j - if t<l then 1 else 0)).sum=((aN x b).map fun t=>SF x m (aK b t) t (j - if t<l then 1 else 0)).sum
  rw [GG h]
  congr 1
  refine List.map_congr_left fun t _=>GK m _ _ fun u=>?_
  rw [gE,gE,h u]
theorem GL {a b:List Int} {j:Int} (h:a.length=b.length):at0 (gT a b) j=at0 a j+at0 b j:=by
 unfold at0
 by_cases hj:j.toNat<a.length
 ·rw [rX (List.getElem?_eq_getElem hj) (List.getElem?_eq_getElem (by omega)),List.getElem?_eq_getElem hj,List.getElem?_eq_getElem (by omega)]
  rfl
 ·rw [List.getElem?_eq_none (by rw [eF h]; omega),List.getElem?_eq_none (by omega),List.getElem?_eq_none (by omega)]
  rfl
theorem VS {w:List Int} {j:Int} (h0:0<=j) (hj:j<w.length):at0 (kD w) j=if j=0 then 0 else at0 w (j - 1):=by
 unfold at0 kD
 split
 ·rename_i z; subst z; rfl
 ·obtain ⟨k,hk⟩:∃ k:Nat,j.toNat=k+1:=⟨j.toNat - 1,by omega⟩
  rw [hk,List.getElem?_cons_succ,List.getElem?_dropLast,if_pos (by omega),show (j - 1).toNat=k by omega]
theorem VT (n:Nat) (j:Int):at0 (xW n) j=0:=by
 unfold at0 xW
 rw [List.getElem?_replicate]
 split<;>rfl
theorem RC:∀ (m:Nat) (a:List Int) (l j:Int),0<=j->j<(max x.length 1:Nat)->at0 (Sh x m a l) j=SF x m a l j
 | 0,a,l,j,h0,h1=>by
  show at0 (xV x.length) j=if j=0 then 1 else 0
  unfold at0 xV
  split
  ·rename_i z; subst z; rfl
  ·obtain ⟨k,hk⟩:∃ k:Nat,j.toNat=k+1:=⟨j.toNat - 1,by omega⟩
   rw [hk,List.getElem?_cons_succ,List.getElem?_replicate]
   split<;>rfl
 | m+1,a,l,j,h0,h1=>by
  rw [m3]
  have go:∀ (ts acc:List Int),acc.length=max x.length 1->at0 (ts.foldl (iH x m a l) acc) j=at0 acc j+(ts.map fun t=>SF x m (aK a t) t (j - if t<l then 1 else 0)).sum:=by
   intro ts
   induction ts with
   | nil=>intro acc _; simp
   | cons t ts ih =>
    intro acc h
    have hS:=iM x m (aK a t) t
    have hlen:acc.length=(if t<l then kD (Sh x m (aK a t) t) else Sh x m (aK a t) t).length:=by
     rw [h]
     split
     ·rw [lB (by omega)]; exact hS.symm
     ·exact hS.symm
    have ev:at0 (if t<l then kD (Sh x m (aK a t) t) else Sh x m (aK a t) t) j=SF x m (aK a t) t (j - if t<l then 1 else 0):=by
     split
     ·rw [VS h0 (by rw [hS]; exact h1)]
      split
      ·rename_i z; subst z; rw [RB _ _ _ _ (by omega)]
      ·exact RC m _ _ _ (by omega) (by omega)
     ·rw [Int.sub_zero]; exact RC m _ _ _ h0 h1
    rw [List.foldl_cons,ih _ (by unfold iH; rw [eF hlen,h]),List.map_cons,List.sum_cons]
    unfold iH
    rw [GL hlen,ev]
    omega
  rw [go _ _ (kE _),VT,Int.zero_add]
  rfl
theorem xO (k:Nat):aR 0 (k+1)=0::(aR 0 k).map fun d=>d+1:=by
 unfold aR
 rw [show k+1=1+k by omega,List.range_add,List.map_append,List.map_map,List.map_map]
 have e:List.map (fun k:Nat=>(0:Int)+(k:Int)) (List.range 1)=[0]:=rfl
 rw [e,List.singleton_append]
 congr 1
 refine List.map_congr_left fun j7 _=>?_
 simp only [Function.comp]
 omega
end
noncomputable def dl:Int->List Int->Int
 | _,[]=>0
 | l,t::w=>(if t<l then 1 else 0)+dl t w
noncomputable def BI (w:List Int):Int:=w.getLast?.getD (-1)
theorem MA:∀ (l:Int) (w:List Int) (t:Int),dl l (w++[t])=dl l w+if t<(w.getLast?.getD l) then 1 else 0
 | l,[],t=>by
  show (if t<l then 1 else 0)+0=0+if t<l then 1 else 0
  rw [Int.add_zero,Int.zero_add]
 | l,a::w,t=>by
  show (if a<l then 1 else 0)+dl a (w++[t])=(if a<l then 1 else 0)+dl a w+_
  rw [MA a w t]
  have e:(a::w).getLast?.getD l=w.getLast?.getD a:=by
   cases w with
   | nil=>rfl
   | cons b w=>rw [List.getLast?_cons_cons]; rw [List.getLast?_eq_getLast (List.cons_ne_nil b w)]; rfl
  rw [e]
  omega
section
variable {x:List (List Int)}
theorem RD (d:Int):∀ i r:Nat,((gls x i).map fun w=>SF x r w (BI w) (d - dl (-1) w)).sum=SF x (i+r) [] (-1) d
 | 0,r=>by
  show SF x r [] (-1) (d - 0)+0=_
  rw [Int.add_zero,Int.sub_zero,Nat.zero_add]
 | i+1,r=>by
  have ih:=RD d i (r+1)
  rw [show i+1+r=i+(r+1) by omega,<- ih]
  have go:∀ L:List (List Int),((L.flatMap fun w=>(aN x w).map fun t=>w++[t]).map fun w=>SF x r w (BI w) (d - dl (-1) w)).sum=(L.map fun w=>SF x (r+1) w (BI w) (d - dl (-1) w)).sum:=by
   intro L
   induction L with
   | nil=>rfl
   | cons w L ihL =>
    rw [List.flatMap_cons,List.map_append,List.sum_append,ihL,List.map_cons,List.sum_cons,List.map_map]
    congr 1
    show _=((aN x w).map fun t=>SF x r (aK w t) t (d - dl (-1) w - if t<BI w then 1 else 0)).sum
    congr 1
    refine List.map_congr_left fun t _=>?_
    simp only [Function.comp]
    have e1:BI (w++[t])=t:=by unfold BI; simp
    rw [e1,MA,Int.sub_sub]
    exact GK r _ _ fun u=>by rw [gE]; simp
  exact go _
theorem sA {d:Nat} (hd:d<max x.length 1):at0 (shares x) d=((gls x x.length).map fun w=>if dl (-1) w=(d:Int) then 1 else 0).sum:=by
 have h:=RD (x:=x) d x.length 0
 rw [Nat.add_zero,<- RC x.length [] (-1) d (by omega) (by omega),Q6 x x.length [] (l:=-1) (l':=0) (by decide) (by decide)] at h
 show at0 (Sh x x.length [] 0) d=_
 rw [<- h]
 congr 1
 refine List.map_congr_left fun w _=>?_
 show (if (d:Int) - dl (-1) w=0 then (1:Int) else 0)=_
 by_cases e:dl (-1) w=(d:Int)
 ·rw [if_pos e,if_pos (by omega)]
 ·rw [if_neg e,if_neg (by omega)]
theorem JA:∀ (l:Int) (w:List Int),0<=dl l w/\dl l w<=w.length
 | _,[]=>⟨Int.le_refl 0,by simp [dl]⟩
 | l,t::w=>by
  have ih:=JA t w
  show 0<=(if t<l then 1 else 0)+dl t w/\(if t<l then 1 else 0)+dl t w<=((t::w).length:Int)
  rw [List.length_cons]
  split<;>omega
theorem fX:∀ {i:Nat} {w:List Int},w∈gls x i->w.length=i /\ ∀ u t v,w=u++t::v->t∈aN x u
 | 0,w,h=>by
  have:w=[]:=by simpa [gls] using h
  subst this
  exact ⟨rfl,fun u t v e=>by simp at e⟩
 | i+1,w,h=>by
  obtain ⟨w',hw',hm⟩:=List.mem_flatMap.1 (show w∈(gls x i).flatMap fun w=>(aN x w).map fun t=>w++[t] from h)
  obtain ⟨t,ht,rfl⟩:=List.mem_map.1 hm
  have ih:=fX hw'
  refine ⟨by rw [List.length_append,ih.1]; rfl,fun u s v e=>?_⟩
  rcases List.eq_nil_or_concat v with rfl | ⟨v',b,rfl⟩
  ·have h1:=List.append_inj' e rfl
   have:t=s:=by simpa using h1.2
   rw [<- this,<- h1.1]
   exact ht
  ·have e2:w'++[t]=(u++s::v')++[b]:=by rw [e]; simp
   have h1:=List.append_inj' e2 rfl
   exact ih.2 u s v' h1.1
theorem pB:∀ {i:Nat} {w:List Int},w.length=i->(∀ u t v,w=u++t::v->t∈aN x u)->w∈gls x i
 | 0,w,h,_=>by
  have:w=[]:=List.length_eq_zero_iff.1 h
  subst this
  exact List.mem_singleton.2 rfl
 | i+1,w,h,hp=>by
  rcases List.eq_nil_or_concat w with rfl | ⟨w',b,rfl⟩
  ·cases h
  ·refine List.mem_flatMap.2 ⟨w',pB (by simpa using h) fun u t v e=>hp u t (v++[b]) (by rw [e]; simp),List.mem_map.2 ⟨b,hp w' b [] (by simp),by simp⟩⟩
end
theorem RE {a b:List Int} (h:a.Perm b):a.sum=b.sum:=by
 induction h with
 | nil=>rfl
 | cons x _ ih=>rw [List.sum_cons,List.sum_cons,ih]
 | swap x y l=>simp only [List.sum_cons]; omega
 | trans _ _ h1 h2=>rw [h1,h2]
section
variable {x y:List (List Int)}
theorem D0:∀ i:Nat,(gls x i).Nodup
 | 0=>by simp [gls]
 | i+1=>by
  show ((gls x i).flatMap fun w=>(aN x w).map fun t=>w++[t]).Nodup
  unfold List.Nodup
  rw [List.pairwise_flatMap]
  refine ⟨fun w _=>?_,(D0 i).imp fun {a b} hab u hu v hv e=>?_⟩
  ·exact List.pairwise_map.2 ((Q8 w).imp fun {a b} hab e=>hab (by have:=(List.append_inj' e rfl).2; simpa using this))
  ·obtain ⟨t,_,rfl⟩:=List.mem_map.1 hu
   obtain ⟨s,_,rfl⟩:=List.mem_map.1 hv
   exact hab (List.append_inj' e rfl).1
theorem kH {w:List Int} (h:∀ u t v,w=u++t::v->t∈aN x u):w.Nodup /\ ∀ t∈w,0<=t/\t<(x.length:Int):=by
 have key:∀ (r u:List Int),(∀ p t v,u++r=p++t::v->t∈aN x p)->u.Nodup->(u++r).Nodup:=by
  intro r
  induction r with
  | nil=>intro u _ hu; rw [List.append_nil]; exact hu
  | cons t r ih =>
   intro u hp hu
   have ht:=(eI (hp u t r rfl)).2
   have e:u++t::r=(u++[t])++r:=by simp
   rw [e]
   refine ih (u++[t]) (fun p s v e2=>hp p s v (by rw [e,e2])) ?_
   rw [List.nodup_append]
   exact ⟨hu,by simp,fun a ha b hb e=>ht (by rw [List.mem_singleton] at hb; rw [<- hb,<- e]; exact ha)⟩
 refine ⟨key w [] h List.nodup_nil,fun t ht=>?_⟩
 obtain ⟨u,v,rfl⟩:=List.append_of_mem ht
 exact (eI (h u t v rfl)).1
theorem BJ {w:List Int} (hl:w.length=x.length) (h:∀ u t v,w=u++t::v->t∈aN x u) {b:Int} (h0:0<=b) (h1:b<(x.length:Int)):b∈w:=by
 obtain ⟨nd,hr⟩:=kH h
 refine Classical.byContradiction fun hb=>?_
 have:=Ord.gQ (b::w) (aR 0 x.length) (List.nodup_cons.2 ⟨hb,nd⟩) fun t ht=>by
  rcases List.mem_cons.1 ht with z | z
  ·rw [z]; exact bI.2 ⟨h0,by omega⟩
  ·have:=hr t z; exact bI.2 ⟨this.1,by omega⟩
 rw [List.length_cons,aO] at this
 omega
theorem x9 {t:Int} {w:List Int} (ht:0<=t):dl (-1) (t::w)=dl t w:=by
 show (if t < -1 then 1 else 0)+dl t w=_
 rw [if_neg (by omega),Int.zero_add]
noncomputable def Turned (x y:List (List Int)):Prop:=y.length=x.length /\ ∀ a b:Int,0<=b->b<(x.length:Int)->(a∈row y ((x.length:Int) - 1 - b)↔(x.length:Int) - 1 - a∈row x b)
theorem Turned.symm (h:Turned x y):Turned y x:=by
 refine ⟨h.1.symm,fun a b h0 h1=>?_⟩
 rw [h.1] at h1 ⊢
 have e:=h.2 ((x.length:Int) - 1 - a) ((x.length:Int) - 1 - b) (by omega) (by omega)
 rw [show (x.length:Int) - 1 - ((x.length:Int) - 1 - b)=b by omega,show (x.length:Int) - 1 - ((x.length:Int) - 1 - a)=a by omega] at e
 exact e.symm
noncomputable def JB (x z:List (List Int)):Prop:=z.length=x.length /\ ∀ a b:Int,0<=a->a<(x.length:Int)->0<=b->b<(x.length:Int)->(a∈row x b↔b∈row z a)
theorem JB.symm (h:JB x y):JB y x:=⟨h.1.symm,fun a b h0 h1 h2 h3=>by rw [h.1] at h1 h3; exact (h.2 b a h2 h3 h0 h1).symm⟩
end
section
variable {x:List (List Int)}
end
section
variable {x y z:List (List Int)}
structure Sd (x y z:List (List Int)):Prop where
 len:z.length=x.length+y.length
 lo:∀ t:Int,0<=t->t<(x.length:Int) -> ∀ a,a∈row z t↔a∈row x t
 hi:∀ t:Int,0<=t->t<(y.length:Int) -> ∀ a,a∈row z (t+x.length)↔a - x.length∈row y t
 rx:∀ t:Int,0<=t->t<(x.length:Int) -> ∀ a∈row x t,0<=a/\a<(x.length:Int)
 ry:∀ t:Int,0<=t->t<(y.length:Int) -> ∀ a∈row y t,0<=a/\a<(y.length:Int)
structure Cb (x y:List (List Int)) (a b c:List Int):Prop where
 lo:∀ t:Int,0<=t->t<(x.length:Int)->(t∈c↔t∈a)
 hi:∀ t:Int,0<=t->t<(y.length:Int)->(t+x.length∈c↔t∈b)
theorem yA {α:Type} (p q:α->Bool) (l:List α):(l.filter q).filter p=l.filter fun a=>q a&&p a:=by
 rw [List.filter_filter]
 congr 1
 funext a
 exact Bool.and_comm _ _
theorem VU (p q:Nat):aR 0 (p+q)=aR 0 p++(aR 0 q).map fun t=>t+(p:Int):=by
 rw [nC.LY]
 congr 1
 unfold aR
 rw [List.map_map]
 refine List.map_congr_left fun k _=>?_
 show (p:Int)+k=0+(k:Int)+p
 omega
theorem i9 {a:List Int} {t:Int}:a.contains t=true↔t∈a:=by simp
theorem JC (h:Sd x y z) {a b c:List Int} (hc:Cb x y a b c):aN z c=aN x a++(aN y b).map fun t=>t+(x.length:Int):=by
 unfold aN
 rw [yA,yA,yA,h.len,VU,List.filter_append,List.filter_map]
 congr 1
 ·refine List.filter_congr fun t ht=>?_
  have hr:=bI.1 ht
  have h0:0<=t:=hr.1
  have h1:t<(x.length:Int):=by omega
  have e1:c.contains t=a.contains t:=by
   rw [Bool.eq_iff_iff,i9,i9]
   exact hc.lo t h0 h1
  rw [e1]
  congr 1
  rw [Bool.eq_iff_iff,List.all_eq_true,List.all_eq_true]
  refine ⟨fun q l hl=>?_,fun q l hl=>?_⟩
  ·have:=q l ((h.lo t h0 h1 l).2 hl)
   rw [i9] at this ⊢
   have r:=h.rx t h0 h1 l hl
   exact (hc.lo l r.1 r.2).1 this
  ·have hl':=(h.lo t h0 h1 l).1 hl
   have:=q l hl'
   rw [i9] at this ⊢
   have r:=h.rx t h0 h1 l hl'
   exact (hc.lo l r.1 r.2).2 this
 ·congr 1
  refine List.filter_congr fun t ht=>?_
  have hr:=bI.1 ht
  have h0:0<=t:=hr.1
  have h1:t<(y.length:Int):=by omega
  show (!c.contains (t+(x.length:Int))&&(row z (t+(x.length:Int))).all fun l=>c.contains l)=_
  have e1:c.contains (t+(x.length:Int))=b.contains t:=by
   rw [Bool.eq_iff_iff,i9,i9]
   exact hc.hi t h0 h1
  rw [e1]
  congr 1
  rw [Bool.eq_iff_iff,List.all_eq_true,List.all_eq_true]
  refine ⟨fun q l hl=>?_,fun q l hl=>?_⟩
  ·have:=q (l+x.length) ((h.hi t h0 h1 _).2 (by rw [show l+(x.length:Int) - x.length=l by omega]; exact hl))
   rw [i9] at this ⊢
   have r:=h.ry t h0 h1 l hl
   exact (hc.hi l r.1 r.2).1 this
  ·have hl':=(h.hi t h0 h1 l).1 hl
   have:=q _ hl'
   rw [i9] at this ⊢
   have r:=h.ry t h0 h1 _ hl'
   have q:=(hc.hi _ r.1 r.2).2 this
   rw [show l - (x.length:Int)+x.length=l by omega] at q
   exact q
theorem Cb.left {a b c:List Int} (hc:Cb x y a b c) {t:Int} (h0:0<=t) (h1:t<(x.length:Int)):Cb x y (aK a t) b (aK c t) :=
 ⟨fun s s0 s1=>by rw [gE,gE,hc.lo s s0 s1],fun s s0 s1=>by
  rw [gE,hc.hi s s0 s1]
  exact ⟨fun q=>q.elim id fun q=>by omega,.inl⟩⟩
theorem Cb.right {a b c:List Int} (hc:Cb x y a b c) {t:Int} (h0:0<=t) (h1:t<(y.length:Int)):Cb x y a (aK b t) (aK c (t+x.length)) :=
 ⟨fun s s0 s1=>by
  rw [gE,hc.lo s s0 s1]
  exact ⟨fun q=>q.elim id fun q=>by omega,.inl⟩,fun s s0 s1=>by
  rw [gE,gE,hc.hi s s0 s1]
  exact ⟨fun q=>q.imp id fun q=>by omega,fun q=>q.imp id fun q=>by omega⟩⟩
theorem vV {a:List Int} {t:Int} (h:NF x a) (ht:t∈aN x a):NF x (aK a t):=by
 obtain ⟨r,n⟩:=eI ht
 refine ⟨?_,fun s hs=>?_⟩
 ·unfold aK
  refine ((sortI_perm (a++[t])).nodup_iff).2 ?_
  rw [List.nodup_append]
  exact ⟨h.1,by simp,fun p hp q hq e=>n (by rw [List.mem_singleton] at hq; rw [<- hq,<- e]; exact hp)⟩
 ·rcases gE.1 hs with q | q
  ·exact h.2 s q
  ·rw [q]; exact r
theorem sB {m j:Nat} {a:List Int} {l:Int} (h:NF x a) (hl:a.length+m=x.length):Nn x m a l (j+1)=Nn x m a (-1) j+(((aN x a).filter fun t=>decide (l<t)).map fun t=>Nn x (m - 1) (aK a t) t (j+1)).sum:=by
 cases m with
 | zero =>
  rw [xX h (by omega)]
  rfl
 | succ m=>rfl
theorem GM {l:Int} {ts:List Int} (h:∀ t∈ts,l<t):ts.filter (fun t=>decide (l<t))=ts:=List.filter_eq_self.2 fun t ht=>by simpa using h t ht
theorem VV {l:Int} {ts:List Int} (h:∀ t∈ts,t<=l):ts.filter (fun t=>decide (l<t))=[]:=List.filter_eq_nil_iff.2 fun t ht=>by have:=h t ht; simp; omega
theorem ZY (m:Nat) (a:List Int) (l:Int):Nn x m a l 0=if m=0 then 1 else 0:=by
 cases m<;>rfl
theorem pC {α:Type} (c:Int) (f:α->Int) (L:List α):(L.map fun a=>f a*c).sum=(L.map f).sum*c:=by
 rw [Int.mul_comm,<- dG]
 congr 1
 exact List.map_congr_left fun a _=>Int.mul_comm _ _
theorem D1 (h:Sd x y z):∀ (j M m1 m2:Nat) (a b c:List Int),m1+m2=M->NF x a->NF y b->Cb x y a b c->a.length+m1=x.length->b.length+m2=y.length->c.length+M=z.length->NF z c ->
  (∀ l:Int,l<(x.length:Int)->Nn z M c l j=Nn x m1 a l j*Nn y m2 b (-1) j)/\(∀ l:Int,0<=l -> ∀ i:Nat,j=i+1->Nn z M c (l+x.length) j=Nn x m1 a (-1) i*Nn y m2 b l j)
 | 0,M,m1,m2,a,b,c,hM,oa,ob,hc,la,lb,lc,oc=>by
  refine ⟨fun l _=>?_,fun l _ i e=>by cases e⟩
  rw [ZY,ZY,ZY]
  by_cases h1:m1=0
  ·by_cases h2:m2=0
   ·rw [if_pos h1,if_pos h2,if_pos (by omega)]; rfl
   ·rw [if_neg h2,if_neg (by omega),Int.mul_zero]
  ·rw [if_neg h1,if_neg (by omega),Int.zero_mul]
 | j+1,M,m1,m2,a,b,c,hM,oa,ob,hc,la,lb,lc,oc=>by
  have hrd:=JC h hc
  have ihj:=(D1 h j M m1 m2 a b c hM oa ob hc la lb lc oc).1 (-1) (by omega)
  have key1:∀ t∈aN x a,Nn z (M - 1) (aK c t) t (j+1)=Nn x (m1 - 1) (aK a t) t (j+1)*Nn y m2 b (-1) (j+1):=fun t ht=>by
   obtain ⟨r,n⟩:=eI ht
   have f:=jV oa
   have:1<=(aN x a).length:=List.length_pos_iff.2 fun e=>by rw [e] at ht; cases ht
   have htz:t∈aN z c:=by rw [hrd]; exact List.mem_append_left _ ht
   exact (D1 h (j+1) (M - 1) (m1 - 1) m2 (aK a t) b (aK c t) (by omega) (vV oa ht) ob (hc.left r.1 r.2) (by rw [nR]; omega) lb (by rw [nR]; omega) (vV oc htz)).1 t r.2
  have key2:∀ t∈aN y b,Nn z (M - 1) (aK c (t+x.length)) (t+x.length) (j+1)=Nn x m1 a (-1) j*Nn y (m2 - 1) (aK b t) t (j+1):=fun t ht=>by
   obtain ⟨r,n⟩:=eI ht
   have f:=jV ob
   have:1<=(aN y b).length:=List.length_pos_iff.2 fun e=>by rw [e] at ht; cases ht
   have htz:t+(x.length:Int)∈aN z c:=by rw [hrd]; exact List.mem_append_right _ (List.mem_map.2 ⟨t,ht,rfl⟩)
   exact (D1 h (j+1) (M - 1) m1 (m2 - 1) a (aK b t) (aK c (t+x.length)) (by omega) oa (vV ob ht) (hc.right r.1 r.2) la (by rw [nR]; omega) (by rw [nR]; omega) (vV oc htz)).2 t r.1 j rfl
  have yz:=sB (j:=j) (l:=-1) ob lb
  rw [GM (l:=-1) fun t ht=>by have:=(eI ht).1.1; omega] at yz
  refine ⟨fun l hl=>?_,fun l hl i e=>?_⟩
  ·have e1:=sB (j:=j) (l:=l) oc lc
   have e2:=sB (j:=j) (l:=l) oa la
   rw [e1,ihj,hrd,List.filter_append,List.map_append,List.sum_append]
   rw [GM (ts:=(aN y b).map fun t=>t+(x.length:Int)) fun t ht=>by
    obtain ⟨s,hs,rfl⟩:=List.mem_map.1 ht
    have:=(eI hs).1.1
    omega]
   have s1:(((aN x a).filter fun t=>decide (l<t)).map fun t=>Nn z (M - 1) (aK c t) t (j+1)).sum=(((aN x a).filter fun t=>decide (l<t)).map fun t=>Nn x (m1 - 1) (aK a t) t (j+1)).sum*Nn y m2 b (-1) (j+1):=by
    rw [<- pC]
    congr 1
    exact List.map_congr_left fun t ht=>key1 t (List.mem_filter.1 ht).1
   have s2:(((aN y b).map fun t=>t+(x.length:Int)).map fun t=>Nn z (M - 1) (aK c t) t (j+1)).sum=Nn x m1 a (-1) j*((aN y b).map fun t=>Nn y (m2 - 1) (aK b t) t (j+1)).sum:=by
    rw [List.map_map,<- dG]
    congr 1
    exact List.map_congr_left fun t ht=>key2 t ht
   rw [s1,s2,e2,yz]
   generalize Nn x m1 a (-1) j=A
   generalize Nn y m2 b (-1) j=B
   generalize ((aN y b).map fun t=>Nn y (m2 - 1) (aK b t) t (j+1)).sum=S
   generalize (((aN x a).filter fun t=>decide (l<t)).map fun t=>Nn x (m1 - 1) (aK a t) t (j+1)).sum=T
   rw [Int.add_mul,Int.mul_add,Int.mul_add]
   omega
  ·have e0:i=j:=by omega
   subst e0
   have e1:=sB (j:=i) (l:=l+x.length) oc lc
   have e2:=sB (j:=i) (l:=l) ob lb
   rw [e1,ihj,hrd,List.filter_append,List.map_append,List.sum_append]
   rw [VV (ts:=aN x a) fun t ht=>by have:=(eI ht).1; omega]
   have s2:((((aN y b).map fun t=>t+(x.length:Int)).filter fun t=>decide (l+(x.length:Int)<t)).map fun t=>Nn z (M - 1) (aK c t) t (i+1)).sum=Nn x m1 a (-1) i*(((aN y b).filter fun t=>decide (l<t)).map fun t=>Nn y (m2 - 1) (aK b t) t (i+1)).sum:=by
    rw [List.filter_map,List.map_map,<- dG]
    have ef:(aN y b).filter ((fun t=>decide (l+(x.length:Int)<t))∘fun t=>t+(x.length:Int))=(aN y b).filter fun t=>decide (l<t):=List.filter_congr fun t _=>by
     show decide (l+(x.length:Int)<t+(x.length:Int))=decide (l<t)
     rw [decide_eq_decide]
     omega
    rw [ef]
    congr 1
    exact List.map_congr_left fun t ht=>key2 t (List.mem_filter.1 ht).1
   rw [s2,e2]
   show _+(0+_)=_
   rw [Int.zero_add,<- Int.mul_add]
termination_by j M=>(j,M)
decreasing_by
 all_goals simp_wf
 all_goals first
  | (apply Prod.Lex.left; omega)
  | (apply Prod.Lex.right; omega)
theorem RF (h:Sd x y z) (k:Nat):DV z.length 0 (shares z) k=DV x.length 0 (shares x) k*DV y.length 0 (shares y) k:=by
 rw [<- tY,<- tY,<- tY]
 exact (D1 h k z.length x.length y.length [] [] [] h.len.symm vP vP ⟨fun _ _ _=>by simp,fun _ _ _=>by simp⟩ (by simp) (by simp) (by simp) vP).1 (-1) (by omega)
theorem VW:∀ (d m n:Nat) (f g:Int->Int),m+n=d->It (m+1) f=(fun _=>0)->It (n+1) g=(fun _=>0)->It (d+1) (fun k=>f k*g k)=fun _=>0:=by
 have df0:∀ {f:Int->Int},It 1 f=(fun _=>0)->Df f=fun _=>0:=fun {f} h=>h
 have sh:∀ (n:Nat) (g:Int->Int),It n g=(fun _=>0)->It n (fun k=>g (k+1))=fun _=>0:=by
  intro n
  induction n with
  | zero=>intro g h; funext k; exact congrFun h (k+1)
  | succ n ih=>intro g h; exact ih (Df g) h
 intro d
 induction d with
 | zero =>
  intro m n f g hd hf hg
  have hm:m=0:=by omega
  have hn:n=0:=by omega
  subst hm; subst hn
  show Df (fun k=>f k*g k)=_
  funext k
  have a:=congrFun (df0 hf) k
  have b:=congrFun (df0 hg) k
  unfold Df at a b ⊢
  show f (k+1)*g (k+1) - f k*g k=0
  rw [show f (k+1)=f k by omega,show g (k+1)=g k by omega]
  omega
 | succ d ih =>
  intro m n f g hd hf hg
  have e:Df (fun k=>f k*g k)=fun k=>Df f k*g (k+1)+f k*Df g k:=by
   funext k
   unfold Df
   show f (k+1)*g (k+1) - f k*g k=_
   rw [Int.sub_mul,Int.mul_sub]
   omega
  show It (d+1) (Df fun k=>f k*g k)=_
  rw [e,QS]
  have p1:It (d+1) (fun k=>Df f k*g (k+1))=fun _=>0:=by
   cases m with
   | zero =>
    have:(fun k=>Df f k*g (k+1))=fun _=>0:=by
     funext k
     rw [df0 hf,Int.zero_mul]
    rw [this]
    exact vR _
   | succ m=>exact ih m n (Df f) (fun k=>g (k+1)) (by omega) hf (sh _ _ hg)
  have p2:It (d+1) (fun k=>f k*Df g k)=fun _=>0:=by
   cases n with
   | zero =>
    have:(fun k=>f k*Df g k)=fun _=>0:=by
     funext k
     rw [df0 hg,Int.mul_zero]
    rw [this]
    exact vR _
   | succ n=>exact ih m n f (Df g) (by omega) hf hg
  rw [p1,p2]
  rfl
theorem NN {n:Nat} {f g:Int->Int} (hf:It (n+1) f=fun _=>0) (hg:It (n+1) g=fun _=>0) (h:∀ k:Nat,f k=g k) (k:Int):f k=g k:=by
 rw [<- IX (n+1) f (fun y=>by rw [hf]) k,<- IX (n+1) g (fun y=>by rw [hg]) k]
 rw [LK (f:=f) (g:=g) (n+1) 0 fun j _=>by rw [Int.zero_add]; exact h j]
theorem JD (h:Sd x y z) (k:Int):DV z.length 0 (shares z) k=DV x.length 0 (shares x) k*DV y.length 0 (shares y) k:=by
 refine NN (n:=z.length) (f:=DV z.length 0 (shares z)) (g:=fun k=>DV x.length 0 (shares x) k*DV y.length 0 (shares y) k) (vS _ _ _) ?_ (RF h) k
 rw [h.len]
 exact VW _ x.length y.length _ _ rfl (vS _ _ _) (vS _ _ _)
end
section
variable {x y z:List (List Int)}
theorem RG (k:Int):∀ (l:List Int) (d:Nat),((l.zipIdx d).map fun p=>p.1*k ^ p.2).sum=k ^ d*ev k l
 | [],d=>by show 0=k ^ d*0; rw [Int.mul_zero]
 | a::l,d=>by
  have ih:=RG k l (d+1)
  rw [List.zipIdx_cons,List.map_cons,List.sum_cons,ih]
  show a*k ^ d+k ^ (d+1)*ev k l=k ^ d*(a+k*ev k l)
  rw [Int.mul_add,Int.pow_succ,Int.mul_comm a,Int.mul_assoc]
theorem JE (k:Int) (l:List Int):ev k l=((aR 0 l.length).map fun d=>at0 l d*k ^ d.toNat).sum:=by
 rw [<- nC.vU (fun a d=>a*k ^ d.toNat)]
 have:=RG k l 0
 rw [Int.pow_zero,Int.one_mul] at this
 rw [<- this]
 rfl
theorem BK {w:List Int} (hw:w∈gls x x.length):0<=dl (-1) w/\dl (-1) w<(max x.length 1:Nat):=by
 have hg:=fX hw
 have h0:=JA (-1) w
 refine ⟨h0.1,?_⟩
 cases w with
 | nil=>show (0:Int)<_; omega
 | cons t w =>
  have ht:=rZ (hg.2 [] t w rfl)
  have h1:=JA t w
  rw [x9 ht]
  have h2:=hg.1
  rw [List.length_cons] at h2
  omega
theorem yB (f:Int->Int):((aR 0 (shares x).length).map fun d=>at0 (shares x) d*f d).sum=((gls x x.length).map fun w=>f (dl (-1) w)).sum:=by
 have hl:=aW x
 rw [hl]
 have e2:((aR 0 (max x.length 1)).map fun d=>at0 (shares x) d*f d)=(aR 0 (max x.length 1)).map fun d=>((gls x x.length).map fun w=>(if dl (-1) w=d then f d else 0)).sum:=by
  refine List.map_congr_left fun d hd=>?_
  have hr:=bI.1 hd
  obtain ⟨m,rfl⟩:∃ m:Nat,d=(m:Int):=⟨d.toNat,by omega⟩
  rw [sA (by omega),Int.mul_comm,<- dG]
  congr 1
  refine List.map_congr_left fun w _=>?_
  split
  ·rw [Int.mul_one]
  ·rw [Int.mul_zero]
 rw [e2,BH]
 congr 1
 refine List.map_congr_left fun w hw=>?_
 have aCJ:=BK hw
 have key:∀ (n:Nat) (c:Int),0<=c->c<(n:Int)->((aR 0 n).map fun d=>if c=d then f d else 0).sum=f c:=by
  intro n
  induction n with
  | zero=>intro c h0 h1; omega
  | succ n ih =>
   intro c h0 h1
   rw [tR,List.map_append,List.sum_append]
   by_cases e:c=(n:Int)
   ·rw [nC.x6 fun d hd=>?_]
    ·subst e
     show 0+((if (n:Int)=0+(n:Int) then f (0+(n:Int)) else 0)+0)=_
     rw [if_pos (by omega),show (0:Int)+(n:Int)=n by omega]
     omega
    ·have:=bI.1 hd
     rw [if_neg (by omega)]
   ·rw [ih c h0 (by omega)]
    show f c+((if c=0+(n:Int) then f (0+(n:Int)) else 0)+0)=_
    rw [if_neg (by omega)]
    omega
 exact key _ _ aCJ.1 aCJ.2
theorem pD (k:Int):ev k (shares x)=((gls x x.length).map fun w=>k ^ (dl (-1) w).toNat).sum:=by
 rw [JE,yB (fun d=>k ^ d.toNat)]
theorem RH (k s:Int):∀ l:List Int,ev k (l.map fun y=>s*y)=s*ev k l
 | []=>by show 0=s*0; rw [Int.mul_zero]
 | a::l=>by
  have ih:=RH k s l
  show s*a+k*ev k (l.map fun y=>s*y)=s*(a+k*ev k l)
  rw [ih,Int.mul_add,Int.mul_left_comm]
theorem GN (k:Int) (l:List Int):∀ d:Nat,ev k (List.replicate d 0++l)=k ^ d*ev k l
 | 0=>by rw [Int.pow_zero,Int.one_mul]; rfl
 | d+1=>by
  have ih:=GN k l d
  rw [List.replicate_succ]
  show 0+k*ev k (List.replicate d 0++l)=_
  rw [ih,Int.pow_succ,Int.zero_add,Int.mul_comm (k ^ d) k,Int.mul_assoc]
theorem RI (k:Int):∀ l:List Int,ev k (l++[0])=ev k l
 | []=>by show 0+k*0=0; omega
 | a::l=>by
  have ih:=RI k l
  show a+k*ev k (l++[0])=a+k*ev k l
  rw [ih]
theorem RJ (k:Int):∀ m:Nat,ev k (BF m)=(1+k) ^ m
 | 0=>by rw [Int.pow_zero]; show 1+k*0=1; omega
 | m+1=>by
  have ih:=RJ k m
  show ev k (gT (BF m++[0]) (0::BF m))=_
  rw [DS k (by simp),RI]
  show ev k (BF m)+(0+k*ev k (BF m))=_
  rw [ih,Int.pow_succ,Int.mul_add,Int.mul_one,Int.mul_comm k]
  omega
theorem RK (k:Int) {n:Nat}:∀ {w:List Int} {d:Nat},d+w.length<=n->ev k (stL n w d)=((w.zipIdx d).map fun p=>p.1*(k ^ (p.2+1)*(1+k) ^ (n - 1 - p.2))).sum
 | [],d,_=>nC.I0 k (n+1)
 | s::w,d,h=>by
  rw [List.length_cons] at h
  have ih:=RK k (n:=n) (w:=w) (d:=d+1) (by omega)
  show ev k (gT ((rY n d).map fun y=>s*y) (stL n w (d+1)))=_
  rw [DS k (by rw [List.length_map,jR (by omega),kG (by omega)]),RH,List.zipIdx_cons,List.map_cons,List.sum_cons,ih]
  congr 1
  unfold rY
  rw [GN,RJ]
theorem yC (k:Int) (h1:1<=x.length):ev k (aP x)=((gls x x.length).map fun w=>k ^ ((dl (-1) w).toNat+1)*(1+k) ^ (x.length - 1 - (dl (-1) w).toNat)).sum:=by
 have hl:(shares x).length=x.length:=by rw [aW]; omega
 unfold aP
 rw [GF hl,RK k (by omega),<- yB (fun d=>k ^ (d.toNat+1)*(1+k) ^ (x.length - 1 - d.toNat)),<- nC.vU (fun a d=>a*(k ^ (d.toNat+1)*(1+k) ^ (x.length - 1 - d.toNat)))]
 rfl
theorem nU:∀ {a b:List Int} (K:Nat),a.length=b.length->(∀ k:Nat,K<=k->ev k a=ev k b)->a=b
 | [],[],K,_,_=>rfl
 | [],_::_,K,h,_=>by simp at h
 | _::_,[],K,h,_=>by simp at h
 | p::a,q::b,K,h,hk=>by
  have e:p=q:=by
   have:=hk ((p - q).natAbs+K+1) (by omega)
   change p+(((p - q).natAbs+K+1:Nat):Int)*ev _ a=q+(((p - q).natAbs+K+1:Nat):Int)*ev _ b at this
   have e2:p - q=(((p - q).natAbs+K+1:Nat):Int)*(ev (((p - q).natAbs+K+1:Nat):Int) b - ev (((p - q).natAbs+K+1:Nat):Int) a):=by
    rw [Int.mul_sub]
    omega
   have hd:(((p - q).natAbs+K+1:Nat):Int) ∣ p - q:=⟨_,e2⟩
   have hn:((p - q).natAbs+K+1) ∣ (p - q).natAbs:=by
    have:=Int.natAbs_dvd_natAbs.2 hd
    rwa [Int.natAbs_natCast] at this
   have:=Nat.eq_zero_of_dvd_of_lt hn (by omega)
   omega
  subst e
  congr 1
  refine nU (K+1) (by simpa using h) fun k hK=>?_
  have:=hk k (by omega)
  change p+(k:Int)*ev k a=p+(k:Int)*ev k b at this
  exact Int.eq_of_mul_eq_mul_left (a:=(k:Int)) (by omega) (by omega)
structure Av (x y z:List (List Int)) (s t:Int):Prop where
 len:z.length=x.length+y.length
 lo:∀ a:Int,0<=a->a<(x.length:Int) -> ∀ b,b∈row z (a+s)↔b - s∈row x a
 hi:∀ a:Int,0<=a->a<(y.length:Int) -> ∀ b,b∈row z (a+t)↔(s<=b/\b<s+x.length)\/b - t∈row y a
 rx:∀ a:Int,0<=a->a<(x.length:Int) -> ∀ b∈row x a,0<=b/\b<(x.length:Int)
 ry:∀ a:Int,0<=a->a<(y.length:Int) -> ∀ b∈row y a,0<=b/\b<(y.length:Int)
 st:(s=0/\t=x.length)\/(s=y.length/\t=0)
theorem fJ {a:List Int} {t:Int}:t∈aN x a↔0<=t/\t<(x.length:Int)/\t∉a /\ ∀ l∈row x t,l∈a:=by
 unfold aN
 rw [List.mem_filter,List.mem_filter,bI,List.all_eq_true]
 constructor
 ·intro ⟨⟨⟨h0,h1⟩,h2⟩,h3⟩
  exact ⟨h0,by omega,by simpa using h2,fun l hl=>by simpa using h3 l hl⟩
 ·intro ⟨h0,h1,h2,h3⟩
  exact ⟨⟨⟨h0,by omega⟩,by simpa using h2⟩,fun l hl=>by simpa using h3 l hl⟩
theorem mF {f:Int->Int}:∀ {u v:List Int} {t:Int} {w:List Int},w.map f=u++t::v -> ∃ u' t' v',w=u'++t'::v'/\u=u'.map f/\t=f t'/\v=v'.map f:=by
 intro u v t w h
 obtain ⟨u',r,e,e1,e2⟩:=List.map_eq_append_iff.1 h
 obtain ⟨t',v',e3,e4,e5⟩:=List.map_eq_cons_iff.1 e2
 exact ⟨u',t',v',by rw [e,e3],e1.symm,e4.symm,e5.symm⟩
noncomputable def jn (s t:Int) (u v:List Int):List Int:=(u.map fun a=>a+s)++v.map fun a=>a+t
theorem aCK (h:Av x y z s t) {u v:List Int} (hu:u∈gls x x.length) (hv:v∈gls y y.length):jn s t u v∈gls z z.length:=by
 obtain ⟨lu,pu⟩:=fX hu
 obtain ⟨lv,pv⟩:=fX hv
 have ru:=(kH pu).2
 have rv:=(kH pv).2
 have hst:=h.st
 refine pB (by unfold jn; rw [List.length_append,List.length_map,List.length_map,lu,lv,h.len]) fun p c q e=>?_
 unfold jn at e
 rcases List.append_eq_append_iff.1 e with ⟨r,e1,e2⟩ | ⟨r,e1,e2⟩
 ·obtain ⟨u',c',v',e3,e4,e5,e6⟩:=mF e2
  obtain ⟨d0,d1,d2,d3⟩:=fJ.1 (pv u' c' v' e3)
  subst e1; subst e4; subst e5
  refine fJ.2 ⟨by omega,by rw [h.len]; omega,fun hm=>?_,fun l hl=>?_⟩
  ·rcases List.mem_append.1 hm with hm | hm
   ·obtain ⟨b,hb,eb⟩:=List.mem_map.1 hm
    have:=ru b hb
    omega
   ·obtain ⟨b,hb,eb⟩:=List.mem_map.1 hm
    exact d2 (by rw [show c' = b by omega]; exact hb)
  ·rcases (h.hi c' d0 d1 l).1 hl with hl | hl
   ·refine List.mem_append_left _ (List.mem_map.2 ⟨l - s,BJ lu pu (by omega) (by omega),by omega⟩)
   ·exact List.mem_append_right _ (List.mem_map.2 ⟨l - t,d3 _ hl,by omega⟩)
 ·cases r with
  | nil =>
   simp at e1 e2
   have e2:v.map (fun a=>a+t)=[]++c::q:=by simpa using e2.symm
   obtain ⟨u',c',v',e3,e4,e5,e6⟩:=mF e2
   have hu':u' = []:=by cases u' with
    | nil=>rfl
    | cons _ _=>simp at e4
   subst hu'
   obtain ⟨d0,d1,d2,d3⟩:=fJ.1 (pv [] c' v' e3)
   subst e5
   rw [<- e1]
   refine fJ.2 ⟨by omega,by rw [h.len]; omega,fun hm=>?_,fun l hl=>?_⟩
   ·obtain ⟨b,hb,eb⟩:=List.mem_map.1 hm
    have:=ru b hb
    omega
   ·rcases (h.hi c' d0 d1 l).1 hl with hl | hl
    ·refine (List.mem_map.2 ⟨l - s,BJ lu pu (by omega) (by omega),by omega⟩)
    ·cases d3 _ hl
  | cons d r =>
   rw [List.cons_append] at e2
   have e3:=(List.cons.inj e2).1
   subst e3
   obtain ⟨u',c',v',e3,e4,e5,e6⟩:=mF e1
   obtain ⟨d0,d1,d2,d3⟩:=fJ.1 (pu u' c' v' e3)
   subst e4; subst e5
   refine fJ.2 ⟨by omega,by rw [h.len]; omega,fun hm=>?_,fun l hl=>?_⟩
   ·obtain ⟨b,hb,eb⟩:=List.mem_map.1 hm
    exact d2 (by rw [show c' = b by omega]; exact hb)
   ·exact List.mem_map.2 ⟨l - s,d3 _ ((h.lo c' d0 d1 l).1 hl),by omega⟩
theorem ZZ (h:Av x y z s t) {w:List Int} (hw:w∈gls z z.length):∃ u∈gls x x.length,∃ v∈gls y y.length,w=jn s t u v:=by
 obtain ⟨lw,pw⟩:=fX hw
 obtain ⟨nd,rw_⟩:=kH pw
 have hst:=h.st
 have hlen:=h.len
 -- the first ones are of the first order
 have low:∀ a∈w.take x.length,s<=a/\a<s+x.length:=fun a ha=>by
  obtain ⟨p,q,e⟩:=List.append_of_mem ha
  have hw2:w=p++a::(q++w.drop x.length):=by
   have:=List.take_append_drop x.length w
   rw [e] at this
   rw [<- List.cons_append,<- List.append_assoc]
   exact this.symm
  obtain ⟨d0,d1,d2,d3⟩:=fJ.1 (pw _ _ _ hw2)
  refine Classical.byContradiction fun hn=>?_
  have ht:0<=a - t/\a - t<(y.length:Int):=by omega
  have all:∀ b∈aR s x.length,b∈p:=fun b hb=>by
   have r:=bI.1 hb
   refine d3 b ?_
   have:=(h.hi (a - t) ht.1 ht.2 b).2 (.inl ⟨r.1,by omega⟩)
   rwa [show a - t+t=a by omega] at this
  have lp:=Ord.gQ (aR s x.length) p ((Ord.xO s x.length).imp fun {a b} (q:a<b)=>by omega) all
  rw [aO] at lp
  have le:(w.take x.length).length<=x.length:=List.length_take_le _ _
  rw [e,List.length_append,List.length_cons] at le
  omega
 have lt:(w.take x.length).length=x.length:=by rw [List.length_take]; omega
 have ndt:(w.take x.length).Nodup:=nd.sublist (List.take_sublist _ _)
 have full:∀ b:Int,s<=b->b<s+x.length->b∈w.take x.length:=fun b h0 h1=>by
  refine Classical.byContradiction fun hb=>?_
  have:=Ord.gQ (b::w.take x.length) (aR s x.length) (List.nodup_cons.2 ⟨hb,ndt⟩) fun c hc=>by
   rcases List.mem_cons.1 hc with q | q
   ·rw [q]; exact bI.2 ⟨h0,by omega⟩
   ·have:=low c q; exact bI.2 ⟨this.1,by omega⟩
  rw [aO,List.length_cons] at this
  omega
 have high:∀ a∈w.drop x.length,t<=a/\a<t+y.length:=fun a ha=>by
  have r:=rw_ a (List.mem_of_mem_drop ha)
  have:¬ (s<=a/\a<s+x.length):=fun q=>by
   have hm:=full a q.1 q.2
   have nd2:=nd
   rw [<- List.take_append_drop x.length w,List.nodup_append] at nd2
   exact nd2.2.2 a hm a ha rfl
  omega
 refine ⟨(w.take x.length).map fun a=>a - s,pB (by rw [List.length_map,lt]) fun p c q e=>?_,(w.drop x.length).map fun a=>a - t,pB (by rw [List.length_map,List.length_drop]; omega) fun p c q e=>?_,?_⟩
 ·obtain ⟨u',c',v',e3,e4,e5,e6⟩:=mF e
  have hc:=low c' (by rw [e3]; simp)
  have hw2:w=u'++c'::(v'++w.drop x.length):=by
   have:=List.take_append_drop x.length w
   rw [e3] at this
   rw [<- List.cons_append,<- List.append_assoc]
   exact this.symm
  obtain ⟨d0,d1,d2,d3⟩:=fJ.1 (pw _ _ _ hw2)
  subst e4; subst e5
  refine fJ.2 ⟨by omega,by omega,fun hm=>?_,fun l hl=>?_⟩
  ·obtain ⟨b,hb,eb⟩:=List.mem_map.1 hm
   exact d2 (by rw [show c' = b by omega]; exact hb)
  ·refine List.mem_map.2 ⟨l+s,d3 _ ?_,by omega⟩
   have:=(h.lo (c' - s) (by omega) (by omega) (l+s)).2 (by rw [show l+s - s=l by omega]; exact hl)
   rwa [show c' - s+s=c' by omega] at this
 ·obtain ⟨u',c',v',e3,e4,e5,e6⟩:=mF e
  have hc:=high c' (by rw [e3]; simp)
  have hw2:w=(w.take x.length++u')++c'::v':=by
   rw [List.append_assoc,<- e3,List.take_append_drop]
  obtain ⟨d0,d1,d2,d3⟩:=fJ.1 (pw _ _ _ hw2)
  subst e4; subst e5
  refine fJ.2 ⟨by omega,by omega,fun hm=>?_,fun l hl=>?_⟩
  ·obtain ⟨b,hb,eb⟩:=List.mem_map.1 hm
   exact d2 (by rw [show c' = b by omega]; exact List.mem_append_right _ hb)
  ·have r:=h.ry (c' - t) (by omega) (by omega) l hl
   have hm:=d3 (l+t) (by
    have:=(h.hi (c' - t) (by omega) (by omega) (l+t)).2 (.inr (by rw [show l+t - t=l by omega]; exact hl))
    rwa [show c' - t+t=c' by omega] at this)
   rcases List.mem_append.1 hm with hm | hm
   ·have:=low _ hm
    omega
   ·exact List.mem_map.2 ⟨l+t,hm,by omega⟩
 ·unfold jn
  rw [List.map_map,List.map_map]
  conv=>lhs; rw [<- List.take_append_drop x.length w]
  congr 1
  ·refine (List.map_id'' ?_ _).symm
   intro a
   show a - s+s=a
   omega
  ·refine (List.map_id'' ?_ _).symm
   intro a
   show a - t+t=a
   omega
theorem RL {s t:Int} {u u' v v':List Int} (hl:u.length=u'.length) (h:jn s t u v=jn s t u' v'):u=u'/\v=v':=by
 unfold jn at h
 obtain ⟨h1,h2⟩:=List.append_inj h (by rw [List.length_map,List.length_map,hl])
 have inj:∀ (s:Int) {a b:List Int},(a.map fun a=>a+s)=(b.map fun a=>a+s)->a=b:=fun s {a b} e=>by
  have:=congrArg (fun l=>l.map fun a:Int=>a - s) e
  simp only [List.map_map] at this
  rw [List.map_id'' (by intro a; show a+s - s=a; omega),List.map_id'' (by intro a; show a+s - s=a; omega)] at this
  exact this
 exact ⟨inj s h1,inj t h2⟩
theorem BL (f:List Int->Int) (h:Av x y z s t):((gls z z.length).map f).sum=((gls x x.length).map fun u=>((gls y y.length).map fun v=>f (jn s t u v)).sum).sum:=by
 have hp:(gls z z.length).Perm ((gls x x.length).flatMap fun u=>(gls y y.length).map fun v=>jn s t u v):=by
  refine (List.perm_ext_iff_of_nodup (D0 _) ?_).2 fun w=>?_
  ·unfold List.Nodup
   rw [List.pairwise_flatMap]
   refine ⟨fun u hu=>List.pairwise_map.2 ((D0 _).imp fun {a b} hab e=>hab (RL rfl e).2),List.Pairwise.imp_of_mem (fun {a b} ha hb hab p hp q hq e=>?_) (D0 _)⟩
   obtain ⟨v,_,rfl⟩:=List.mem_map.1 hp
   obtain ⟨v',_,rfl⟩:=List.mem_map.1 hq
   exact hab (RL (by rw [(fX ha).1,(fX hb).1]) e).1
  ·rw [List.mem_flatMap]
   constructor
   ·intro hw
    obtain ⟨u,hu,v,hv,e⟩:=ZZ h hw
    exact ⟨u,hu,List.mem_map.2 ⟨v,hv,e.symm⟩⟩
   ·intro ⟨u,hu,hm⟩
    obtain ⟨v,hv,rfl⟩:=List.mem_map.1 hm
    exact aCK h hu hv
 rw [RE (hp.map f)]
 have flat:∀ L:List (List Int),((L.flatMap fun u=>(gls y y.length).map fun v=>jn s t u v).map f).sum=(L.map fun u=>((gls y y.length).map fun v=>f (jn s t u v)).sum).sum:=by
  intro L
  induction L with
  | nil=>rfl
  | cons u L ih =>
   rw [List.flatMap_cons,List.map_append,List.sum_append,ih,List.map_cons,List.sum_cons,List.map_map]
   rfl
 exact flat _
theorem RM:∀ (l:Int) (u v:List Int),dl l (u++v)=dl l u+dl (u.getLast?.getD l) v
 | l,[],v=>by show dl l v=0+dl l v; omega
 | l,a::u,v=>by
  have ih:=RM a u v
  show (if a<l then 1 else 0)+dl a (u++v)=(if a<l then 1 else 0)+dl a u+_
  rw [ih,List.getLast?_cons]
  show _=_+dl (u.getLast?.getD a) v
  omega
theorem RN (s:Int):∀ (l:Int) (w:List Int),dl (l+s) (w.map fun a=>a+s)=dl l w
 | l,[]=>rfl
 | l,a::w=>by
  have ih:=RN s a w
  show (if a+s<l+s then 1 else 0)+dl (a+s) (w.map fun a=>a+s)=(if a<l then 1 else 0)+dl a w
  rw [ih]
  by_cases h:a<l
  ·rw [if_pos h,if_pos (by omega)]
  ·rw [if_neg h,if_neg (by omega)]
theorem RO {s:Int} (hs:0<=s) {w:List Int} (hw:∀ a∈w,0<=a):dl (-1) (w.map fun a=>a+s)=dl (-1) w:=by
 cases w with
 | nil=>rfl
 | cons a w =>
  have h0:=hw a List.mem_cons_self
  rw [x9 h0,List.map_cons,x9 (by omega),RN]
noncomputable def m6 (x y:List (List Int)) (s:Int):Nat:=if 1<=x.length/\1<=y.length/\s=y.length then 1 else 0
theorem YQ (h:Av x y z s t) {u v:List Int} (hu:u∈gls x x.length) (hv:v∈gls y y.length):dl (-1) (jn s t u v)=dl (-1) u+dl (-1) v+m6 x y s:=by
 obtain ⟨lu,pu⟩:=fX hu
 obtain ⟨lv,pv⟩:=fX hv
 have ru:=(kH pu).2
 have rv:=(kH pv).2
 have hst:=h.st
 unfold jn
 rw [RM,RO (by omega) fun a ha=>(ru a ha).1]
 rcases List.eq_nil_or_concat u with e | ⟨u',c,e⟩
 ·have hx:x.length=0:=by rw [<- lu,e]; rfl
  subst e
  show _+dl (-1) _=_
  rw [RO (by omega) fun a ha=>(rv a ha).1]
  unfold m6
  rw [if_neg (by omega)]
  omega
 ·have hc:=ru c (by rw [e]; simp)
  have hl:((u.map fun a=>a+s).getLast?.getD (-1))=c+s:=by
   rw [e]
   simp
  rw [hl]
  cases v with
  | nil =>
   have hy:y.length=0:=by rw [<- lv]; rfl
   unfold m6
   rw [if_neg (by omega)]
   show _+0=_+0+_
   omega
  | cons b v =>
   have hb:=rv b List.mem_cons_self
   have hy:1<=y.length:=by rw [<- lv]; simp
   have hx:1<=x.length:=by rw [<- lu,e]; simp
   rw [List.map_cons,x9 hb.1]
   show _+((if b+t<c+s then 1 else 0)+dl (b+t) _)=_
   rw [RN]
   unfold m6
   rcases hst with ⟨e1,e2⟩ | ⟨e1,e2⟩
   ·rw [if_neg (by omega),if_neg (by omega)]
    omega
   ·rw [if_pos (by omega),if_pos ⟨hx,hy,e1⟩]
    omega
end
theorem aCL {i:Nat} {f:EF} {ρ:bF} {d:D} (h:f (lI ρ)=some d):hW i f ρ=.nx (ρ.set i (.ow d)):=by
 unfold hW
 rw [h]
theorem aCM {i:Nat} {f k:EF} {ρ:bF} {l:List Int} {v:Int} {j:Nat} (h1:f (dR ρ)=some (.int v)) (h2:ρ[i]? = some (.ow (aG l))) (h3:k (dR ρ)=some (.int (j:Int))) (hj:j<l.length):uY i (p7 f) k ρ=.nx (ρ.set i (.ow (aG (l.set j v)))):=by
 unfold uY p7
 rw [h1]
 simp only [Option.bind_some,D.IG,if_true]
 rw [h2]
 simp only [qH,aG,Option.bind_some]
 rw [h3]
 simp only [Option.bind_some,asInt]
 rw [LD (by rw [List.length_map]; exact hj)]
 simp only [Option.map_some,List.map_set]
theorem VX {l:List Int} {j:Nat} {v:Int} (hj:j<l.length) (i:Nat):at0 (l.set j v) i=if i=j then v else at0 l i:=by
 unfold at0
 rw [Int.toNat_natCast,List.getElem?_set]
 by_cases h:j=i
 ·rw [if_pos h,if_pos hj,if_pos h.symm]; rfl
 ·rw [if_neg h,if_neg (Ne.symm h)]
theorem vW {a b:List Int} (hl:a.length=b.length) (h:∀ i:Nat,i<a.length->at0 a i=at0 b i):a=b:=by
 apply List.ext_getElem hl
 intro i h1 h2
 have:=h i h1
 unfold at0 at this
 rw [Int.toNat_natCast,List.getElem?_eq_getElem h1,List.getElem?_eq_getElem h2] at this
 exact this
theorem pE {f:Int->Int} {n:Nat} {i:Nat} (h:i<n):at0 ((aR 0 n).map f) i=f i:=by
 unfold at0
 rw [Int.toNat_natCast,List.getElem?_map,j9 h]
 show f (0+(i:Int))=f i
 rw [Int.zero_add]
theorem RP (k:Int):∀ {l:List Int} {j:Nat} {v:Int},j<l.length->ev k (l.set j (at0 l j+v))=ev k l+v*k ^ j
 | [],j,v,h=>by simp at h
 | a::l,0,v,h=>by
  show (a+v)+k*ev k l=a+k*ev k l+v*k ^ 0
  rw [Int.pow_zero,Int.mul_one]
  omega
 | a::l,j+1,v,h=>by
  have ih:=RP k (l:=l) (j:=j) (v:=v) (by simpa using h)
  have e:at0 (a::l) ((j+1:Nat):Int)=at0 l (j:Int):=by
   unfold at0
   rw [Int.toNat_natCast,Int.toNat_natCast,List.getElem?_cons_succ]
  rw [e]
  show a+k*ev k (l.set j (at0 l j+v))=a+k*ev k l+v*k ^ (j+1)
  rw [ih,Int.mul_add,Int.pow_succ,Int.mul_comm (k ^ j) k,Int.mul_left_comm]
  omega
theorem xE {f:EF} {ρ:bF} {d:D} (h:f (lI ρ)=some d):sX (bT f) ρ=.nx ρ:=by
 unfold sX bT
 rw [h]
 rfl
theorem D2 {x y:List (List Int)} (h:x.length+y.length<=1000):bO (aV x) (aV y)=some (aV (x++y)):=by
 unfold aV
 rw [rM (by simp; omega),List.map_append]
theorem GO {x y:List Int} (h:x.length+y.length<=1000):bO (tupI x) (tupI y)=some (tupI (x++y)):=by
 unfold tupI
 rw [rM (by simp; omega),List.map_append]
theorem tr1 {a:EF} {ρ:cD} {n:Nat} (ha:a ρ=some (.int (n:Int))) (hn:n<=1000):uH (aA a aC) ρ=some (tupI (aR 0 n)):=by
 unfold uH
 rw [args1 ha]
 show (if (n:Int).natAbs<=16777216 then some (D.tup ((aR 0 (n:Int).toNat).map D.int)) else none)=_
 rw [if_pos (by omega),Int.toNat_natCast]
 rfl
theorem tr2 {a b:EF} {ρ:cD} {i n:Nat} (ha:a ρ=some (.int (i:Int))) (hb:b ρ=some (.int ((i:Int)+n))) (hi:i<=1000) (hn:n<=1000):uH (aA a (aA b aC)) ρ=some (tupI (aR i n)):=by
 unfold uH
 rw [args2 ha hb]
 show (if (i:Int).natAbs<=8388608/\((i:Int)+n).natAbs<=8388608 then some (D.tup ((aR (i:Int) ((i:Int)+n - i).toNat).map D.int)) else none)=_
 rw [if_pos (by omega),show ((i:Int)+n - i).toNat=n by omega]
 rfl
noncomputable def VY (w:List Int):List Int:=(aR 0 ((w.length:Int) - 1).toNat).filter fun k=>decide (at0 w k>at0 w (k+1))
theorem aG9 {w:List Int} {d:D} {i:Nat} {ρ:cD} (hd:d=tupI w\/d=aG w) (hw:w.length<=1000) (h:aB i ρ=some d) (hb:benv 1 [i] ρ=[none,some d]):bV 1 [i] (aU (aA (aE dZ (cB bY (aA (aB i) aC)) (eC (.int 1))) aC)) (g1 0) (tV (aE AG (aE fA (aB 1) (aB 0)) (aE fA (aB 1) (aE bO (aB 0) (eC (.int 1)))))) (aB 0) ρ=some (aG (VY w)):=by
 have hat:∀ {a:Int},0<=a->a<(w.length:Int)->fA d (.int a)=some (.int (at0 w a)):=fun {a} h0 h1=>by
  rcases hd with z | z
  ·rw [z]; exact QO h0 h1
  ·rw [z]; exact mY h0 h1
 have hlen:bY [d]=some (.int (w.length:Int)):=by
  rcases hd with z | z
  ·rw [z]; exact FU
  ·rw [z]; show some (D.int ((w.map D.int).length:Nat))=_; rw [List.length_map]
 refine i8 ((aR 0 ((w.length:Int) - 1).toNat).map D.int) ?_ (by rw [List.length_map,aO]; omega) ?_
 ·unfold aU
  rw [args1 (bP (g:=dZ) (a:=cB bY (aA (aB i) aC)) (b:=eC (.int 1)) (x:=.int (w.length:Int)) (y:=.int 1) (eX h hlen) rfl rfl),Option.bind_some,xG (by omega)]
 ·rw [hb]
  refine kZ D.int (fun k=>decide (at0 w k>at0 w (k+1))) D.int _ fun k hk=>?_
  have hr:=bI.1 hk
  exact ⟨[some (.int k),some d],rfl,DJ (bP (x:=.int (at0 w k)) (y:=.int (at0 w (k+1))) (bP (x:=d) (y:=.int k) rfl rfl (hat (by omega) (by omega))) (bP (x:=d) (y:=.int (k+1)) rfl rfl (hat (by omega) (by omega))) mT) rfl,fun _=>rfl⟩
theorem GP (a:Int) (w:List Int) {k:Int} (h:0<=k):at0 (a::w) (k+1)=at0 w k:=by
 unfold at0
 rw [show (k+1).toNat=k.toNat+1 by omega,List.getElem?_cons_succ]
theorem RQ:∀ (a:Int) (w:List Int),((VY (a::w)).length:Int)=dl a w
 | a,[]=>rfl
 | a,b::w=>by
  have ih:=RQ b w
  have e:(VY (a::b::w)).length=(if b<a then 1 else 0)+(VY (b::w)).length:=by
   unfold VY
   rw [show (((a::b::w).length:Int) - 1).toNat=((((b::w).length:Int) - 1).toNat)+1 by simp only [List.length_cons]; omega,xO,List.filter_cons,List.filter_map]
   have ef:(aR 0 ((((b::w).length:Int) - 1).toNat)).filter ((fun k=>decide (at0 (a::b::w) k>at0 (a::b::w) (k+1)))∘fun d=>d+1)=(aR 0 ((((b::w).length:Int) - 1).toNat)).filter fun k=>decide (at0 (b::w) k>at0 (b::w) (k+1)):=List.filter_congr fun k hk=>by
    have hr:=bI.1 hk
    show decide (at0 (a::b::w) (k+1)>at0 (a::b::w) (k+1+1))=_
    rw [GP _ _ (by omega),GP _ _ (by omega)]
   rw [ef]
   have h0:at0 (a::b::w) 0=a:=rfl
   have h1:at0 (a::b::w) (0+1)=b:=rfl
   rw [h0,h1]
   by_cases h:b<a
   ·rw [if_pos (by simpa using h),if_pos h,List.length_cons,List.length_map]; omega
   ·rw [if_neg (by simpa using h),if_neg h,List.length_map]; omega
  show _=(if b<a then 1 else 0)+dl b w
  rw [e,<- ih]
  split<;>simp
theorem VZ {w:List Int} (h:∀ a∈w,0<=a):((VY w).length:Int)=dl (-1) w:=by
 cases w with
 | nil=>rfl
 | cons a w=>rw [x9 (h a List.mem_cons_self),RQ]
theorem iA (f:Int->Int) (n:Nat):((aR 0 (n+1)).map f).sum=((aR 0 n).map f).sum+f n:=by
 rw [tR,List.map_append,List.sum_append]
 show _+(f (0+(n:Int))+0)=_
 rw [Int.zero_add]
 omega
theorem Z0 (n:Nat) (k:Int) (w:List Int):DV n 0 w k=((aR 0 w.length).map fun d=>at0 w d*C (k+n - 1 - d) n).sum:=by
 rw [<- nC.vU (fun a d=>a*C (k+n - 1 - d) n),show (0:Int)=((0:Nat):Int) from rfl,<- DR]
 rfl
theorem vX {l:List Int} {i:Int} (h0:0<=i) (h1:i<(l.length:Int)):at0 l i∈l:=by
 unfold at0
 rw [List.getElem?_eq_getElem (by omega)]
 exact List.getElem_mem _
end LL
end
section
namespace K48
open PySem L3 L4
noncomputable def eL:gH:=cM 1 1
  (bD (aE AG (aB 0) (eC (.int 9))))
noncomputable def bQ:gH:=cM 2 2
  (iF (tV (aI eL (aA (aE bO (cB bY (aA (aB 0) aC)) (cB bY (aA (aB 1) aC))) aC)))
   (fun _=>.no)
   eJ)
noncomputable def eO:gH:=cM 2 2
  (bD (cB cP (aA (bV 1 [1] (cU (aB 0)) (g1 0) cL (aE bO (aB 0) (aB 1))) aC)))
noncomputable def eG:gH:=cM 2 2
  (bD (cB cP (aA (bV 1 [1] (cU (aB 0)) (g1 0) cL (aI eO (aA (aB 0) (aA (aB 1) aC)))) aC)))
noncomputable def fK:gH:=cM 2 2
  (aJ (sX (bT (aI bQ (aA (aB 0) (aA (aB 1) aC)))))
  (bD (aE bO (aB 0) (aI eG (aA (aB 1) (aA (cB bY (aA (aB 0) aC)) aC))))))
noncomputable def fY:gH:=cM 3 2
  (aJ (sX (bT (aI bQ (aA (aB 0) (aA (aB 1) aC)))))
  (aJ (aT 2 (uH (aA (cB bY (aA (aB 0) aC)) aC)))
  (bD (aE bO (aB 0) (cB cP (aA (bV 1 [2] (cU (aI eG (aA (aB 1) (aA (cB bY (aA (aB 0) aC)) aC)))) (g1 0) cL (aE bO (aB 1) (aB 0))) aC))))))
noncomputable def fL:gH:=cM 3 2
  (aJ (sX (bT (aI bQ (aA (aB 0) (aA (aB 1) aC)))))
  (aJ (aT 2 (uH (aA (cB bY (aA (aB 1) aC)) (aA (aE bO (cB bY (aA (aB 1) aC)) (cB bY (aA (aB 0) aC))) aC))))
  (bD (aE bO (cB cP (aA (bV 1 [2] (cU (aB 1)) (g1 0) cL (aE bO (aB 0) (aB 1))) aC)) (aI eG (aA (aB 0) (aA (cB bY (aA (aB 1) aC)) aC)))))))
noncomputable def fS:gH:=cM 1 1
  (bD (bV 1 [0] (aU (aA (aE dZ (cB bY (aA (aB 0) aC)) (eC (.int 1))) aC)) (g1 0) (tV (aE AG (aE fA (aB 1) (aB 0)) (aE fA (aB 1) (aE bO (aB 0) (eC (.int 1)))))) (aB 0)))
noncomputable def gU:gH:=cM 4 1
  (aJ (hW 1 (aE repLM (eW (aA (eC (.int 0)) aC)) (cB p6 (aA (eC (.int 1)) (aA (cB bY (aA (aB 0) aC)) aC)))))
  (aJ (dQ (cU (aI LL.gS (aA (aB 0) aC))) (j8 2)
   (aJ (aT 3 (cB bY (aA (aI fS (aA (aB 2) aC)) aC)))
   (uY 1 (p7 (aE bO (aE fA (aB 1) (aB 3)) (eC (.int 1)))) (aB 3))))
  (bD (aB 1))))
noncomputable def fW:gH:=cM 5 3
  (aJ (aT 3 (eC (.int 0)))
  (aJ (dQ (aU (aA (cB bY (aA (aB 0) aC)) aC)) (j8 4)
   (aT 3 (aE bO (aB 3) (aE mulM (aE fA (aB 0) (aB 4)) (aI LL.dM (aA (aE dZ (aE dZ (aE bO (aB 2) (aB 1)) (eC (.int 1))) (aB 4)) (aA (aB 1) aC)))))))
  (bD (aB 3))))
noncomputable def iN:gH:=cM 6 2
  (aJ (iF (tV (aE tG (aB 1) (eC (.int 0))))
   (bD (eW (aA (eC (.int 1)) aC)))
   eJ)
  (aJ (hW 2 (eW (aA (eC (.int 0)) aC)))
  (aJ (dQ (aU (aA (eC (.int 1)) (aA (aE bO (aB 1) (eC (.int 1))) aC))) (j8 3)
   (aJ (aT 4 (eC (.int 0)))
   (aJ (dQ (aU (aA (cB FM (aA (aB 3) (aA (aB 1) aC))) aC)) (j8 5)
    (aT 4 (aE bO (aB 4) (aE mulM (aE fA (aB 0) (aB 5)) (aI LL.dM (aA (aE dZ (aE dZ (aB 1) (eC (.int 1))) (aB 5)) (aA (aE dZ (aE dZ (aB 3) (eC (.int 1))) (aB 5)) aC)))))))
   (sX (rH 2 iK (bT (aB 4)))))))
  (bD (aB 2)))))
noncomputable def gF:gH:=cM 8 4
  (aJ (hW 4 (aE repLM (eW (aA (eC (.int 0)) aC)) (aB 3)))
  (aJ (dQ (aU (aA (cB bY (aA (aB 0) aC)) aC)) (j8 5)
   (dQ (aU (aA (cB bY (aA (aB 1) aC)) aC)) (j8 6)
    (aJ (aT 7 (aE bO (aE bO (aB 5) (aB 6)) (aB 2)))
    (iF (tV (mS leM U7 (eC (.int 0)) (aB 7) (aB 3)))
     (uY 4 (p7 (aE bO (aE fA (aB 4) (aB 7)) (aE mulM (aE fA (aB 0) (aB 5)) (aE fA (aB 1) (aB 6))))) (aB 7))
     eJ))))
  (bD (aB 4))))
noncomputable def rR:gH:=cM 17 1
  (aJ (aT 1 (aI LL.fF (aA (aI LL.fD (aA (aB 0) (aA (eC (.int 0)) aC))) (aA (eC (.int 3)) (aA (eC (.int 100003)) aC)))))
  (aJ (aT 2 (aI LL.fG (aA (aB 0) (aA (eC (.int 1)) (aA (aE fA (eW (aA (eC (.int 4)) (aA (eC (.int 5)) aC))) (cB qG (aA (aE tG (aE iJ (aE fA (aB 1) (eC (.int 0))) (eC (.int 8))) (eC (.int 3))) aC))) (aA (eC (.int 200017)) aC))))))
  (aJ (aT 3 (aI LL.fG (aA (aB 0) (aA (eC (.int 3)) (aA (eC (.int 4)) (aA (eC (.int 300007)) aC))))))
  (aJ (aT 4 (aE dZ (aE iJ (aE fA (aB 1) (eC (.int 1))) (eC (.int 9))) (eC (.int 4))))
  (aJ (iF (tV (aE tG (aE iJ (aE fA (aB 1) (eC (.int 2))) (eC (.int 2))) (eC (.int 1))))
   (aT 4 (aE bO (aE dZ (aI LL.iL (aA (aI LL.fD (aA (aB 0) (aA (eC (.int 5)) aC))) (aA (aE dZ (aE mulM (eC (.int 2)) (aE uX (eC (.int 10)) (eC (.int 60)))) (eC (.int 1))) (aA (eC (.int 400009)) aC)))) (aE uX (eC (.int 10)) (eC (.int 60)))) (eC (.int 1))))
   eJ)
  (aJ (aT 5 (cB bY (aA (aB 2) aC)))
  (aJ (aT 6 (cB bY (aA (aB 3) aC)))
  (aJ (aT 7 (aI gU (aA (aB 2) aC)))
  (aJ (aT 8 (aI gU (aA (aB 3) aC)))
  (aJ (aT 9 (aE mulM (aI fW (aA (aB 7) (aA (aB 5) (aA (aB 4) aC)))) (aI fW (aA (aB 8) (aA (aB 6) (aA (aB 4) aC))))))
  (aJ (iF (jL (tV (aI (LL.bR 6) (aA (aI LL.gR (aA (aI fK (aA (aB 2) (aA (aB 3) aC))) (aA (aB 4) aC))) (aA (aB 9) aC)))))
   (bD (eC (.bl false)))
   eJ)
  (aJ (aT 10 (aI iN (aA (aB 7) (aA (aB 5) aC))))
  (aJ (aT 11 (aI iN (aA (aB 8) (aA (aB 6) aC))))
  (aJ (aT 12 (cB qG (aA (mR (aE AG (aB 5) (eC (.int 0))) (aE AG (aB 6) (eC (.int 0)))) aC)))
  (aJ (aT 13 (aI fY (aA (aB 2) (aA (aB 3) aC))))
  (aJ (aT 14 (aI fL (aA (aB 2) (aA (aB 3) aC))))
  (aJ (aT 15 (cB p6 (aA (eC (.int 1)) (aA (aE bO (aB 5) (aB 6)) aC))))
  (aJ (iF (jL (tV (aI (LL.bR 6) (aA (aI LL.aS (aA (aB 13) aC)) (aA (cB cP (aA (aI gF (aA (aB 7) (aA (aB 8) (aA (eC (.int 0)) (aA (aB 15) aC))))) aC)) aC)))))
   (bD (eC (.bl false)))
   eJ)
  (aJ (iF (jL (tV (aI (LL.bR 6) (aA (aI LL.aS (aA (aB 14) aC)) (aA (cB cP (aA (aI gF (aA (aB 7) (aA (aB 8) (aA (aB 12) (aA (aB 15) aC))))) aC)) aC)))))
   (bD (eC (.bl false)))
   eJ)
  (aJ (aT 9 (aI gF (aA (aB 10) (aA (aB 11) (aA (eC (.int 0)) (aA (aE bO (aE bO (aB 5) (aB 6)) (eC (.int 1))) aC))))))
  (aJ (iF (jL (tV (aI (LL.bR 6) (aA (aI LL.cN (aA (aB 14) aC)) (aA (cB cP (aA (aB 9) aC)) aC)))))
   (bD (eC (.bl false)))
   eJ)
  (aJ (iF (tV (aE tG (aB 12) (eC (.int 1))))
   (aJ (aT 16 (aI gF (aA (aB 10) (aA (aB 11) (aA (CZ (eC (.int 1))) (aA (aE bO (aE bO (aB 5) (aB 6)) (eC (.int 1))) aC))))))
   (aT 9 (bV 1 [9,16] (aU (aA (aE bO (aE bO (aB 5) (aB 6)) (eC (.int 1))) aC)) (g1 0) cL (aE bO (aE fA (aB 1) (aB 0)) (aE fA (aB 2) (aB 0))))))
   eJ)
  (bD (aI (LL.bR 6) (aA (aI LL.cN (aA (aB 13) aC)) (aA (cB cP (aA (aB 9) aC)) aC))))))))))))))))))))))))))
end K48
end
section
namespace K48
open PySem L3 L4 K24 LL
theorem JF {x y:List (List Int)} (h:x.length+y.length<=9):bQ [aV x,aV y]=.ok .non:=by
 have e:eL [.int ((x.length:Int)+y.length)]=.ok (.bl false):=by
  unfold eL
  refine hJ rfl (iG (bP (x:=.int ((x.length:Int)+y.length)) (y:=.int 9) rfl rfl ?_))
  rw [mT,decide_eq_false (by omega)]
 have e2:iF (tV (aI eL (aA (aE bO (cB bY (aA (aB 0) aC)) (cB bY (aA (aB 1) aC))) aC))) (fun _=>.no) eJ (eA 2 [aV x,aV y])=.nx (eA 2 [aV x,aV y]) :=
  xF (DJ (h8 (bP (eX rfl eD) (eX rfl eD) fH) e) rfl) rfl
 unfold bQ cM
 rw [e2]
 rfl
theorem JG {r:List Int} {m:Int} (h:r.length<=1000):eO [tupI r,.int m]=.ok (tupI (Ord.shift m r)):=by
 unfold eO
 refine hJ rfl (iG (eX (i8 (r.map D.int) rfl (by rw [List.length_map]; omega) (fI D.int (fun z=>D.int (z+m)) r fun z _=>⟨_,rfl,bP (x:=.int z) (y:=.int m) rfl rfl fH⟩)) ?_))
 unfold tupI Ord.shift
 rw [List.map_map]
 rfl
theorem rV {y:List (List Int)} {m:Int} (hl:y.length<=1000) (h:∀ r∈y,r.length<=1000):eG [aV y,.int m]=.ok (aV (y.map (Ord.shift m))):=by
 unfold eG
 refine hJ rfl (iG (eX (i8 (y.map tupI) rfl (by rw [List.length_map]; omega) (fI tupI (fun r=>tupI (Ord.shift m r)) y fun r hr=>⟨_,rfl,dD rfl rfl (JG (h r hr))⟩)) ?_))
 unfold aV
 rw [List.map_map]
 rfl
theorem V0 {x y:List (List Int)} (hx:Ord.Rows x) (hy:Ord.Rows y) (h:x.length+y.length<=9):fK [aV x,aV y]=.ok (aV (Ord.side x y)):=by
 unfold fK
 refine hJ rfl (eB _ (xE (dD rfl rfl (JF h))) (iG (bP (x:=aV x) rfl (dD rfl (eX rfl eD) (rV (by omega) fun r hr=>by have:=hy.short hr; omega)) ?_)))
 rw [D2 (by simp; omega),<- Ord.FV hx hy]
 unfold Ord.LF
 rw [List.map_id]
theorem RR {x y:List (List Int)} (hx:Ord.Rows x) (hy:Ord.Rows y) (h:x.length+y.length<=9):fY [aV x,aV y]=.ok (aV (Ord.plain x y)):=by
 unfold fY
 refine hJ rfl (eB _ (xE (dD rfl rfl (JF h))) (eB _ (fV (tupI (aR 0 x.length)) (tr1 (eX rfl eD) (by omega)) rfl) (iG (bP (x:=aV x) (y:=aV (y.map fun r=>aR 0 x.length++Ord.shift x.length r)) rfl (eX (i8 ((y.map (Ord.shift x.length)).map tupI) ?_ (by simp; omega) (fI tupI (fun r=>tupI (aR 0 x.length++r)) _ fun r hr=>⟨_,rfl,bP (x:=tupI (aR 0 x.length)) (y:=tupI r) rfl rfl (GO ?_)⟩)) ?_) ?_))))
 ·unfold cU
  rw [dD (x:=aV y) (y:=.int x.length) rfl (eX rfl eD) (rV (by omega) fun r hr=>by have:=hy.short hr; omega)]
  rfl
 ·obtain ⟨v,hv,rfl⟩:=List.mem_map.mp hr
  have:=hy.short hv
  unfold Ord.shift
  rw [aO,List.length_map]
  omega
 ·show some (D.tup _)=some (D.tup _)
  simp only [List.map_map]
  rfl
 ·rw [D2 (by simp; omega),<- Ord.A7 hx hy]
  unfold Ord.DL
  rw [List.map_id]
theorem NO {x y:List (List Int)} (hx:Ord.Rows x) (hy:Ord.Rows y) (h:x.length+y.length<=9):fL [aV x,aV y]=.ok (aV (Ord.strict x y)):=by
 unfold fL
 refine hJ rfl (eB _ (xE (dD rfl rfl (JF h))) (eB _ (fV (tupI (aR y.length x.length)) (tr2 (eX rfl eD) (bP (x:=.int y.length) (y:=.int x.length) (eX rfl eD) (eX rfl eD) fH) (by omega) (by omega)) rfl) (iG (bP (x:=aV (y.map fun r=>r++aR y.length x.length)) (y:=aV (x.map (Ord.shift y.length))) (eX (i8 (y.map tupI) rfl (by simp; omega) (fI tupI (fun r=>tupI (r++aR y.length x.length)) _ fun r hr=>⟨_,rfl,bP (x:=tupI r) (y:=tupI (aR y.length x.length)) rfl rfl (GO ?_)⟩)) ?_) (dD rfl (eX rfl eD) (rV (by omega) fun r hr=>by have:=hx.short hr; omega)) ?_))))
 ·have:=hy.short hr
  rw [aO]
  omega
 ·show some (D.tup _)=some (D.tup _)
  rw [List.map_map]
  rfl
 ·rw [D2 (by simp; omega),<- Ord.xP hx hy]
  rfl
section
variable {x y:List (List Int)}
theorem yD {u v:List (List Int)} {a:Int} (h0:0<=a) (h1:a<(u.length:Int)):row (u++v) a=row u a:=by
 unfold row
 rw [List.getElem?_append_left (by omega)]
theorem yE {u v:List (List Int)} {a:Int} (h0:0<=a):row (u++v) (a+u.length)=row v a:=by
 unfold row
 rw [List.getElem?_append_right (by omega),show (a+(u.length:Int)).toNat - u.length=a.toNat by omega]
theorem vY {u:List (List Int)} {f:List Int->List Int} {a:Int} (h0:0<=a) (h1:a<(u.length:Int)):row (u.map f) a=f (row u a):=by
 unfold row
 rw [List.getElem?_map,List.getElem?_eq_getElem (by omega)]
 rfl
theorem mG (hx:Ord.Rows x):∀ t:Int,0<=t->t<(x.length:Int) -> ∀ a∈row x t,0<=a/\a<(x.length:Int):=fun t h0 h1 a ha=>by
 refine hx.rng t.toNat (row x t) ?_ a ha
 unfold row
 rw [List.getElem?_eq_getElem (by omega)]
 rfl
theorem MB (hx:Ord.Rows x) (hy:Ord.Rows y):Sd x y (Ord.side x y):=by
 rw [<- Ord.FV hx hy]
 unfold Ord.LF
 rw [List.map_id]
 refine ⟨by simp,fun t h0 h1 a=>by rw [yD h0 h1],fun t h0 h1 a=>?_,mG hx,mG hy⟩
 rw [yE h0,vY h0 h1,Ord.oY]
theorem RS (hx:Ord.Rows x) (hy:Ord.Rows y):Av x y (Ord.plain x y) 0 x.length:=by
 rw [<- Ord.A7 hx hy]
 unfold Ord.DL
 rw [List.map_id]
 refine ⟨by simp,fun t h0 h1 a=>?_,fun t h0 h1 a=>?_,mG hx,mG hy,.inl ⟨rfl,rfl⟩⟩
 ·rw [Int.add_zero,yD h0 h1,Int.sub_zero]
 ·rw [yE h0,vY h0 h1,List.mem_append,Ord.oY,bI]
theorem NP (hx:Ord.Rows x) (hy:Ord.Rows y):Av x y (Ord.strict x y) y.length 0:=by
 rw [<- Ord.xP hx hy]
 unfold Ord.DM
 refine ⟨by simp; omega,fun t h0 h1 a=>?_,fun t h0 h1 a=>?_,mG hx,mG hy,.inr ⟨rfl,rfl⟩⟩
 ·have e:=yE (u:=y.map fun r=>r++aR y.length x.length) (v:=x.map (Ord.shift y.length)) h0
  rw [List.length_map] at e
  rw [e,vY h0 h1,Ord.oY]
 ·rw [Int.add_zero,yD h0 (by rw [List.length_map]; exact h1),vY h0 h1,List.mem_append,bI,Int.sub_zero]
  exact Or.comm
theorem MC {z:List (List Int)} {s t:Int} (h:Av x y z s t) (k:Int):ev k (shares z)=k ^ m6 x y s*(ev k (shares x)*ev k (shares y)):=by
 rw [pD,BL _ h,pD,pD]
 have e:((gls x x.length).map fun u=>((gls y y.length).map fun v=>k ^ (dl (-1) (jn s t u v)).toNat).sum)=(gls x x.length).map fun u=>k ^ (dl (-1) u).toNat*(k ^ m6 x y s*((gls y y.length).map fun v=>k ^ (dl (-1) v).toNat).sum):=by
  refine List.map_congr_left fun u hu=>?_
  rw [<- dG,<- dG]
  congr 1
  refine List.map_congr_left fun v hv=>?_
  have h1:=BK hu
  have h2:=BK hv
  rw [YQ h hu hv,show (dl (-1) u+dl (-1) v+(m6 x y s:Int)).toNat=(dl (-1) u).toNat+(m6 x y s+(dl (-1) v).toNat) by omega,Int.pow_add,Int.pow_add]
 rw [e,pC,Int.mul_left_comm]
theorem GQ {z:List (List Int)} {s t:Int} (h:Av x y z s t) (hx:1<=x.length) (hy:1<=y.length) (k:Int):k*ev k (aP z)=(if m6 x y s=1 then k else 1+k)*(ev k (aP x)*ev k (aP y)):=by
 have hz:1<=z.length:=by rw [h.len]; omega
 rw [yC k hz,yC k hx,yC k hy,BL _ h,<- dG]
 have e:((gls x x.length).map fun u=>k*((gls y y.length).map fun v=>k ^ ((dl (-1) (jn s t u v)).toNat+1)*(1+k) ^ (z.length - 1 - (dl (-1) (jn s t u v)).toNat)).sum)=(gls x x.length).map fun u=>k ^ ((dl (-1) u).toNat+1)*(1+k) ^ (x.length - 1 - (dl (-1) u).toNat)*((if m6 x y s=1 then k else 1+k)*((gls y y.length).map fun v=>k ^ ((dl (-1) v).toNat+1)*(1+k) ^ (y.length - 1 - (dl (-1) v).toNat)).sum):=by
  refine List.map_congr_left fun u hu=>?_
  rw [<- dG,<- dG,<- dG]
  congr 1
  refine List.map_congr_left fun v hv=>?_
  have h1:=BK hu
  have h2:=BK hv
  have hl:=h.len
  rw [YQ h hu hv]
  obtain ⟨p,hp⟩:∃ p:Nat,dl (-1) u=p:=⟨(dl (-1) u).toNat,by omega⟩
  obtain ⟨q,hq⟩:∃ q:Nat,dl (-1) v=q:=⟨(dl (-1) v).toNat,by omega⟩
  rw [hp] at h1 ⊢
  rw [hq] at h2 ⊢
  rw [Int.toNat_natCast,Int.toNat_natCast]
  have sm:m6 x y s=0\/m6 x y s=1:=by unfold m6; split<;>simp
  rcases sm with z0 | z1
  ·rw [z0,if_neg (by decide)]
   rw [show ((p:Int)+q+((0:Nat):Int)).toNat=p+q by omega]
   have a1:k*(k ^ (p+q+1)*(1+k) ^ (z.length - 1 - (p+q)))=(k ^ (p+1)*k ^ (q+1))*((1+k)*(1+k) ^ (x.length - 1 - p+(y.length - 1 - q))):=by
    rw [<- Int.pow_add,<- Int.mul_assoc,show k*k ^ (p+q+1)=k ^ (p+1+(q+1)) by rw [Int.mul_comm,<- Int.pow_succ]; congr 1; omega,show (1+k)*(1+k) ^ (x.length - 1 - p+(y.length - 1 - q))=(1+k) ^ (z.length - 1 - (p+q)) by rw [Int.mul_comm,<- Int.pow_succ]; congr 1; omega]
   rw [a1,Int.pow_add (1+k)]
   generalize k ^ (p+1)=A
   generalize k ^ (q+1)=B
   generalize (1+k) ^ (x.length - 1 - p)=E
   generalize (1+k) ^ (y.length - 1 - q)=F
   generalize 1+k=G
   ac_rfl
  ·rw [z1,if_pos rfl]
   rw [show ((p:Int)+q+((1:Nat):Int)).toNat=p+q+1 by omega]
   rw [show k ^ (p+q+1+1)=k ^ (p+1)*k ^ (q+1) by rw [<- Int.pow_add]; congr 1; omega,show z.length - 1 - (p+q+1)=x.length - 1 - p+(y.length - 1 - q) by omega,Int.pow_add (1+k)]
   generalize k ^ (p+1)=A
   generalize k ^ (q+1)=B
   generalize (1+k) ^ (x.length - 1 - p)=E
   generalize (1+k) ^ (y.length - 1 - q)=F
   ac_rfl
 rw [e,pC]
 ac_rfl
end
section
variable {x y:List (List Int)}
theorem V1 {w:List Int} (hw:w.length<=1000):fS [tupI w]=.ok (aG (VY w)):=by
 unfold fS
 exact hJ rfl (iG (aG9 (.inl rfl) hw rfl rfl))
noncomputable def cw (N:Nat) (W:List (List Int)):List Int:=(aR 0 N).map fun d=>(W.map fun w=>if dl (-1) w=d then (1:Int) else 0).sum
theorem fZ (N:Nat) (W:List (List Int)):(cw N W).length=N:=by unfold cw; rw [List.length_map,aO]
theorem V2 {N m:Nat} {W:List (List Int)} {w:List Int} (hm:dl (-1) w=(m:Int)) (h:m<N):cw N (W++[w])=(cw N W).set m (at0 (cw N W) m+1):=by
 refine vW (by rw [List.length_set,fZ,fZ]) fun i hi=>?_
 rw [fZ] at hi
 rw [VX (by rw [fZ]; exact h)]
 unfold cw
 rw [pE hi,pE h,List.map_append,List.sum_append]
 show _+((if dl (-1) w=(i:Int) then (1:Int) else 0)+0)=_
 rw [hm]
 by_cases e:i=m
 ·subst e
  rw [if_pos rfl,if_pos rfl]
  omega
 ·rw [if_neg e,if_neg (by omega),pE hi]
  omega
theorem Z1:cw (max x.length 1) (gls x x.length)=shares x:=by
 refine vW (by rw [fZ,aW]) fun i hi=>?_
 rw [fZ] at hi
 rw [sA hi]
 unfold cw
 rw [pE hi]
theorem Z2 (N:Nat):cw N []=List.replicate N 0:=by
 refine vW (by rw [fZ,List.length_replicate]) fun i hi=>?_
 rw [fZ] at hi
 unfold cw
 rw [pE hi]
 unfold at0
 rw [Int.toNat_natCast,List.getElem?_replicate,if_pos hi]
 rfl
theorem uM (hx:x.length<=7) (hrw:∀ r∈x,r.length<=9):gU [aV x]=.ok (aG (shares x)):=by
 unfold gU
 have main:Rt ((aJ (hW 1 (aE repLM (eW (aA (eC (.int 0)) aC)) (cB p6 (aA (eC (.int 1)) (aA (cB bY (aA (aB 0) aC)) aC)))))
  (aJ (dQ (cU (aI LL.gS (aA (aB 0) aC))) (j8 2)
   (aJ (aT 3 (cB bY (aA (aI fS (aA (aB 2) aC)) aC)))
   (uY 1 (p7 (aE bO (aE fA (aB 1) (aB 3)) (eC (.int 1)))) (aB 3))))
  (bD (aB 1)))) (eA 4 [aV x])) fun d=>d=aG (shares x):=by
  refine bL [.ro (aV x),.ow (aG (cw (max x.length 1) [])),.no,.no] (aCL ?_) ?_
  ·rw [Z2]
   refine bP (x:=.lst [.int 0]) (y:=.int (max x.length 1:Nat)) rfl (VJ (x:=.int 1) (y:=.int x.length) rfl (eX rfl eD) ?_) (rep0 _ (by omega))
   show some (D.int (if (x.length:Int)>1 then (x.length:Int) else 1))=_
   congr 2
   split<;>omega
  refine kA (fun ρ=>∃ v2 v3,ρ=[.ro (aV x),.ow (aG (shares x)),v2,v3]) ?_ fun ρ ⟨v2,v3,e⟩=>by subst e; exact kB _ rfl rfl
  refine DI ((gls x x.length).map tupI) (fun i ρ=>∃ v2 v3,ρ=[.ro (aV x),.ow (aG (cw (max x.length 1) ((gls x x.length).take i))),v2,v3]) ?_ ⟨.no,.no,rfl⟩ (fun i d ρ hd ⟨v2,v3,e⟩=>?_) fun ρ ⟨v2,v3,e⟩=>?_
  ·unfold cU
   rw [h8 (x:=aV x) rfl (NM hx hrw)]
   rfl
  ·subst e
   rw [List.getElem?_map] at hd
   obtain ⟨w,hw,rfl⟩:=Option.map_eq_some_iff.1 hd
   have hm:w∈gls x x.length:=List.mem_of_getElem? hw
   have hg:=fX hm
   have hr:=(kH hg.2).2
   have hb:=BK hm
   have hlen:=VZ fun a ha=>(hr a ha).1
   obtain ⟨m,hm2⟩:∃ m:Nat,dl (-1) w=m:=⟨(dl (-1) w).toNat,by omega⟩
   refine ⟨[.ro (aV x),.ow (aG (cw (max x.length 1) ((gls x x.length).take i))),.ro (tupI w),v3],rfl,?_⟩
   refine mV [.ro (aV x),.ow (aG (cw (max x.length 1) ((gls x x.length).take i))),.ro (tupI w),.ro (.int m)] (fV (.int m) (eX (x:=aG (VY w)) (h8 (x:=tupI w) rfl (V1 (by omega))) ?_) rfl) ?_
   ·show some (D.int ((VY w).map D.int).length)=_
    rw [List.length_map,hlen,hm2]
   ·refine ⟨_,aCM (l:=cw (max x.length 1) ((gls x x.length).take i)) (v:=at0 (cw (max x.length 1) ((gls x x.length).take i)) m+1) (j:=m) (bP (x:=.int (at0 (cw (max x.length 1) ((gls x x.length).take i)) m)) (y:=.int 1) (bP (x:=aG (cw (max x.length 1) ((gls x x.length).take i))) (y:=.int m) rfl rfl (mY (by omega) (by rw [fZ]; omega))) rfl fH) rfl rfl (by rw [fZ]; omega),.ro (tupI w),.ro (.int m),?_⟩
    have e6:(gls x x.length).take (i+1)=(gls x x.length).take i++[w]:=by rw [List.take_succ,hw]; rfl
    rw [e6,V2 hm2 (by omega)]
    rfl
  ·subst e
   rw [List.length_map,List.take_length,Z1]
   exact ⟨v2,v3,rfl⟩
 obtain ⟨d,e,rfl⟩:=lL rfl main
 exact e
theorem JH {w:List Int} {n:Nat} {k:Int} (hw:w.length<=20) (hs:∀ y∈w,y.natAbs<18446744073709551616) (hn:n<=12) (hk:Bg 208 k):fW [aG w,.int n,.int k]=.ok (.int (DV n 0 w k)):=by
 unfold fW
 have main:Rt ((aJ (aT 3 (eC (.int 0)))
  (aJ (dQ (aU (aA (cB bY (aA (aB 0) aC)) aC)) (j8 4)
   (aT 3 (aE bO (aB 3) (aE mulM (aE fA (aB 0) (aB 4)) (aI LL.dM (aA (aE dZ (aE dZ (aE bO (aB 2) (aB 1)) (eC (.int 1))) (aB 4)) (aA (aB 1) aC)))))))
  (bD (aB 3)))) (eA 5 [aG w,.int n,.int k])) fun d=>d=.int (DV n 0 w k):=by
  refine bL [.ro (aG w),.ro (.int n),.ro (.int k),.ro (.int 0),.no] rfl ?_
  refine kA (fun ρ=>∃ v,ρ=[.ro (aG w),.ro (.int n),.ro (.int k),.ro (.int (DV n 0 w k)),v]) ?_ fun ρ ⟨v,e⟩=>by subst e; exact kB _ rfl rfl
  rw [Z0]
  refine jM w.length (fun i ρ=>∃ v,ρ=[.ro (aG w),.ro (.int n),.ro (.int k),.ro (.int ((aR 0 i).map fun d=>at0 w d*C (k+n - 1 - d) n).sum),v]) (args1 (eX (x:=aG w) rfl (by show some (D.int ((w.map D.int).length:Nat))=_; rw [List.length_map]))) (by omega) ⟨_,rfl⟩ (fun i ρ hi ⟨v,e⟩=>?_) fun ρ h=>h
  subst e
  have hm:=hs _ (vX (l:=w) (i:=(i:Int)) (by omega) (by omega))
  refine ⟨_,rfl,qM (.int ((aR 0 (i+1)).map fun d=>at0 w d*C (k+n - 1 - d) n).sum) ?_ ⟨_,rfl⟩⟩
  rw [iA]
  exact bP (x:=.int ((aR 0 i).map fun d=>at0 w d*C (k+n - 1 - d) n).sum) (y:=.int (at0 w i*C (k+n - 1 - i) n)) rfl (bP (x:=.int (at0 w i)) (y:=.int (C (k+n - 1 - i) n)) (bP (x:=aG w) (y:=.int i) rfl rfl (mY (by omega) (by omega))) (dD (x:=.int (k+n - 1 - i)) (y:=.int n) rfl rfl (uK (rW hk (by omega) (by omega)) hn)) (lK hm)) fH
 obtain ⟨d,e,rfl⟩:=lL rfl main
 exact e
theorem yF (hx:x.length<=9):iN [aG (shares x),.int x.length]=.ok (aG (aP x)):=by
 unfold iN
 have hl:=aW x
 have main:Rt ((aJ (iF (tV (aE tG (aB 1) (eC (.int 0))))
   (bD (eW (aA (eC (.int 1)) aC)))
   eJ)
  (aJ (hW 2 (eW (aA (eC (.int 0)) aC)))
  (aJ (dQ (aU (aA (eC (.int 1)) (aA (aE bO (aB 1) (eC (.int 1))) aC))) (j8 3)
   (aJ (aT 4 (eC (.int 0)))
   (aJ (dQ (aU (aA (cB FM (aA (aB 3) (aA (aB 1) aC))) aC)) (j8 5)
    (aT 4 (aE bO (aB 4) (aE mulM (aE fA (aB 0) (aB 5)) (aI LL.dM (aA (aE dZ (aE dZ (aB 1) (eC (.int 1))) (aB 5)) (aA (aE dZ (aE dZ (aB 3) (eC (.int 1))) (aB 5)) aC)))))))
   (sX (rH 2 iK (bT (aB 4)))))))
  (bD (aB 2))))) (eA 6 [aG (shares x),.int x.length])) fun d=>d=aG (aP x):=by
  by_cases h0:x.length=0
  ·refine VI (aBy true (DJ (bP (x:=.int x.length) (y:=.int 0) rfl rfl gP) (by rw [h0]; rfl)) (fun _=>kB (.lst [.int 1]) rfl ?_) fun h=>by cases h)
   have:x=[]:=List.length_eq_zero_iff.1 h0
   subst this
   rw [nC.x5]
   rfl
  ·refine bL _ (xF (DJ (bP (x:=.int x.length) (y:=.int 0) rfl rfl gP) (by show some (decide ((x.length:Int)=0))=_; rw [decide_eq_false (by omega)])) rfl) ?_
   refine bL [.ro (aG (shares x)),.ro (.int x.length),.ow (aG (nC.qR x.length (shares x) 0)),.no,.no,.no] rfl ?_
   refine kA (fun ρ=>∃ v3 v4 v5,ρ=[.ro (aG (shares x)),.ro (.int x.length),.ow (aG (nC.qR x.length (shares x) x.length)),v3,v4,v5]) ?_ fun ρ hq2=>by
    obtain ⟨v3,v4,v5,e⟩:=hq2
    subst e
    refine kB _ rfl ?_
    rw [nC.BG rfl (by omega)]
   refine DI ((aR 1 x.length).map D.int) (fun i ρ=>∃ v3 v4 v5,ρ=[.ro (aG (shares x)),.ro (.int x.length),.ow (aG (nC.qR x.length (shares x) i)),v3,v4,v5]) ?_ ⟨_,_,_,rfl⟩ (fun i d ρ hd ⟨v3,v4,v5,e⟩=>?_) fun ρ h=>by rw [List.length_map,aO] at h; exact h
   ·rw [aBz (i:=1) (j:=(x.length:Int)+1) rfl rfl (by decide) (by omega),show ((x.length:Int)+1 - 1).toNat=x.length by omega]
   ·subst e
    have hi:i<x.length:=by
     have:=(List.getElem?_eq_some_iff.1 hd).1
     rwa [List.length_map,aO] at this
    rw [List.getElem?_map,j9 hi] at hd
    cases hd
    refine ⟨[.ro (aG (shares x)),.ro (.int x.length),.ow (aG (nC.qR x.length (shares x) i)),.ro (.int (1+(i:Int))),v4,v5],rfl,?_⟩
    refine mV [.ro (aG (shares x)),.ro (.int x.length),.ow (aG (nC.qR x.length (shares x) i)),.ro (.int (1+(i:Int))),.ro (.int 0),v5] rfl ?_
    refine DH (fun ρ=>∃ v,ρ=[.ro (aG (shares x)),.ro (.int x.length),.ow (aG (nC.qR x.length (shares x) i)),.ro (.int (1+(i:Int))),.ro (.int (Q5 x.length (i+1) (shares x) 0)),v]) ?_ fun ρ ⟨v,e⟩=>?_
    ·rw [nC.VR (by omega)]
     refine jM (i+1) (fun c ρ=>∃ v,ρ=[.ro (aG (shares x)),.ro (.int x.length),.ow (aG (nC.qR x.length (shares x) i)),.ro (.int (1+(i:Int))),.ro (.int ((aR 0 c).map fun d=>at0 (shares x) d*C ((x.length:Int) - 1 - d) (((i+1:Nat):Int) - 1 - d).toNat).sum),v]) (args1 (VJ (x:=.int (1+(i:Int))) (y:=.int x.length) rfl rfl ?_)) (by omega) ⟨_,rfl⟩ (fun c ρ hc ⟨v,e⟩=>?_) fun ρ h=>h
     ·show some (D.int (if (x.length:Int)<1+(i:Int) then (x.length:Int) else 1+(i:Int)))=_
      rw [if_neg (by omega)]
      congr 2
      omega
     ·subst e
      have hm:=kF hx _ (vX (l:=shares x) (i:=(c:Int)) (by omega) (by omega))
      have hc2:=uK (x:=(x.length:Int) - 1 - c) (m:=(((i+1:Nat):Int) - 1 - c).toNat) (by
       have h:((x.length:Int) - 1 - c).natAbs<2 ^ 10:=by omega
       exact Nat.lt_of_lt_of_le h (Nat.pow_le_pow_right (by decide) (by decide))) (by omega)
      rw [show (((((i+1:Nat):Int) - 1 - c).toNat:Nat):Int)=1+(i:Int) - 1 - c by omega] at hc2
      refine ⟨_,rfl,qM (.int ((aR 0 (c+1)).map fun d=>at0 (shares x) d*C ((x.length:Int) - 1 - d) (((i+1:Nat):Int) - 1 - d).toNat).sum) ?_ ⟨_,rfl⟩⟩
      rw [iA]
      exact bP (y:=.int (at0 (shares x) c*C ((x.length:Int) - 1 - c) (((i+1:Nat):Int) - 1 - c).toNat)) rfl (bP (x:=.int (at0 (shares x) c)) (y:=.int (C ((x.length:Int) - 1 - c) (((i+1:Nat):Int) - 1 - c).toNat)) (bP (x:=aG (shares x)) (y:=.int c) rfl rfl (mY (by omega) (by omega))) (dD (x:=.int ((x.length:Int) - 1 - c)) (y:=.int (1+(i:Int) - 1 - c)) rfl rfl hc2) (lK (by omega))) fH
    ·subst e
     refine ⟨_,ZT (d:=.int (Q5 x.length (i+1) (shares x) 0)) (ds:=(nC.qR x.length (shares x) i).map D.int) rfl rfl (by rw [List.length_map]; unfold nC.qR; simp; omega),.ro (.int (1+(i:Int))),.ro (.int (Q5 x.length (i+1) (shares x) 0)),v,?_⟩
     rw [oX]
     have e6:nC.qR x.length (shares x) i++[Q5 x.length (i+1) (shares x) 0]=nC.qR x.length (shares x) (i+1):=by
      unfold nC.qR
      rw [List.range_succ,List.map_append,List.cons_append]
      rfl
     rw [e6]
     rfl
 obtain ⟨d,e,rfl⟩:=lL rfl main
 exact e
noncomputable def tm (a b:List Int) (more:Int) (many:Nat) (k i j:Int):Int:=if 0<=i+j+more/\i+j+more<(many:Int) then at0 a i*at0 b j*k ^ (i+j+more).toNat else 0
theorem sC {a b:List Int} {more:Int} {many:Nat} (ha:a.length<=20) (hb:b.length<=20) (hm:many<=20) (ba:∀ y∈a,Bg 2500 y) (bb:∀ y∈b,Bg 2500 y) :
  ∃ L:List Int,L.length=many/\(∀ k,ev k L=((aR 0 a.length).map fun i=>((aR 0 b.length).map fun j=>tm a b more many k i j).sum).sum)/\gF [aG a,aG b,.int more,.int many]=.ok (aG L):=by
 unfold gF
 have main:Rt ((aJ (hW 4 (aE repLM (eW (aA (eC (.int 0)) aC)) (aB 3)))
  (aJ (dQ (aU (aA (cB bY (aA (aB 0) aC)) aC)) (j8 5)
   (dQ (aU (aA (cB bY (aA (aB 1) aC)) aC)) (j8 6)
    (aJ (aT 7 (aE bO (aE bO (aB 5) (aB 6)) (aB 2)))
    (iF (tV (mS leM U7 (eC (.int 0)) (aB 7) (aB 3)))
     (uY 4 (p7 (aE bO (aE fA (aB 4) (aB 7)) (aE mulM (aE fA (aB 0) (aB 5)) (aE fA (aB 1) (aB 6))))) (aB 7))
     eJ))))
  (bD (aB 4)))) (eA 8 [aG a,aG b,.int more,.int many])) fun d=>∃ L:List Int,d=aG L/\L.length=many/\(∀ k,ev k L=((aR 0 a.length).map fun i=>((aR 0 b.length).map fun j=>tm a b more many k i j).sum).sum):=by
  have aCN:∀ (c:List Int),bY [aG c]=some (.int c.length):=fun c=>by show some (D.int ((c.map D.int).length:Nat))=_; rw [List.length_map]
  refine bL [.ro (aG a),.ro (aG b),.ro (.int more),.ro (.int many),.ow (aG (List.replicate many 0)),.no,.no,.no] (aCL (bP (x:=.lst [.int 0]) (y:=.int many) rfl rfl (rep0 _ (by omega)))) ?_
  refine kA (fun ρ=>∃ L v5 v6 v7,ρ=[.ro (aG a),.ro (aG b),.ro (.int more),.ro (.int many),.ow (aG L),v5,v6,v7]/\L.length=many/\(∀ k,ev k L=((aR 0 a.length).map fun i=>((aR 0 b.length).map fun j=>tm a b more many k i j).sum).sum)) ?_ fun ρ ⟨L,v5,v6,v7,e,h1,h2⟩=>by subst e; exact kB _ rfl ⟨L,rfl,h1,h2⟩
  refine jM a.length (fun i ρ=>∃ L v5 v6 v7,ρ=[.ro (aG a),.ro (aG b),.ro (.int more),.ro (.int many),.ow (aG L),v5,v6,v7]/\L.length=many/\(∀ k,ev k L=((aR 0 i).map fun i=>((aR 0 b.length).map fun j=>tm a b more many k i j).sum).sum)) (args1 (eX rfl (aCN a))) (by omega) ⟨_,_,_,_,rfl,List.length_replicate,fun k=>nC.I0 k many⟩ (fun i ρ hi ⟨L,v5,v6,v7,e,h1,h2⟩=>?_) fun ρ h=>h
  subst e
  refine ⟨[.ro (aG a),.ro (aG b),.ro (.int more),.ro (.int many),.ow (aG L),.ro (.int i),v6,v7],rfl,?_⟩
  refine jM b.length (fun j ρ=>∃ L v6 v7,ρ=[.ro (aG a),.ro (aG b),.ro (.int more),.ro (.int many),.ow (aG L),.ro (.int i),v6,v7]/\L.length=many/\(∀ k,ev k L=((aR 0 i).map fun i=>((aR 0 b.length).map fun j=>tm a b more many k i j).sum).sum+((aR 0 j).map fun j=>tm a b more many k i j).sum)) (args1 (eX rfl (aCN b))) (by omega) ⟨L,_,_,rfl,h1,fun k=>by rw [h2 k]; exact (Int.add_zero _).symm⟩ (fun j ρ hj ⟨L,v6,v7,e,h1,h2⟩=>?_) fun ρ ⟨L,v6,v7,e,h1,h2⟩=>⟨L,_,v6,v7,e,h1,fun k=>by rw [h2 k,iA]⟩
  subst e
  refine ⟨[.ro (aG a),.ro (aG b),.ro (.int more),.ro (.int many),.ow (aG L),.ro (.int i),.ro (.int j),v7],rfl,?_⟩
  refine mV [.ro (aG a),.ro (aG b),.ro (.int more),.ro (.int many),.ow (aG L),.ro (.int i),.ro (.int j),.ro (.int ((i:Int)+j+more))] rfl ?_
  have tst:tV (mS leM U7 (eC (.int 0)) (aB 7) (aB 3)) (dR [.ro (aG a),.ro (aG b),.ro (.int more),.ro (.int many),.ow (aG L),.ro (.int i),.ro (.int j),.ro (.int ((i:Int)+j+more))])=some (decide (0<=(i:Int)+j+more/\(i:Int)+j+more<(many:Int))):=by
   refine DJ (d:=.bl (decide (0<=(i:Int)+j+more/\(i:Int)+j+more<(many:Int)))) ?_ rfl
   unfold mS
   show ((rJ (.bl (decide (0<=(i:Int)+j+more)))).bind fun k=>if k=true then some (D.bl (decide ((i:Int)+j+more<(many:Int)))) else some (.bl false))=_
   show (if decide (0<=(i:Int)+j+more)=true then some (D.bl (decide ((i:Int)+j+more<(many:Int)))) else some (.bl false))=_
   by_cases g:0<=(i:Int)+j+more
   ·rw [if_pos (by simpa using g)]
    congr 2
    rw [decide_eq_decide]
    exact ⟨fun q=>⟨g,q⟩,fun q=>q.2⟩
   ·rw [if_neg (by simpa using g),decide_eq_false (fun q=>g q.1)]
  refine FR _ tst (fun hc=>?_) fun hc=>?_
  ·have hc:=of_decide_eq_true hc
   obtain ⟨m,hm2⟩:∃ m:Nat,(i:Int)+j+more=m:=⟨((i:Int)+j+more).toNat,by omega⟩
   refine ⟨_,aCM (l:=L) (v:=at0 L m+at0 a i*at0 b j) (j:=m) (bP (x:=.int (at0 L m)) (y:=.int (at0 a i*at0 b j)) (bP (x:=aG L) (y:=.int m) rfl (by rw [<- hm2]; rfl) (mY (by omega) (by omega))) (bP (x:=.int (at0 a i)) (y:=.int (at0 b j)) (bP (x:=aG a) (y:=.int i) rfl rfl (mY (by omega) (by omega))) (bP (x:=aG b) (y:=.int j) rfl rfl (mY (by omega) (by omega))) (vO (p:=2500) (q:=2500) (by omega) (by omega) (ba _ (vX (by omega) (by omega))) (bb _ (vX (by omega) (by omega))))) fH) rfl (by rw [<- hm2]; rfl) (by omega),L.set m (at0 L m+at0 a i*at0 b j),.ro (.int j),.ro (.int ((i:Int)+j+more)),rfl,by rw [List.length_set]; exact h1,fun k=>?_⟩
   rw [RP k (by omega),h2 k,iA]
   have:tm a b more many k i j=at0 a i*at0 b j*k ^ m:=by
    unfold tm
    rw [if_pos hc,hm2,Int.toNat_natCast]
   rw [this]
   omega
  ·have hc:=of_decide_eq_false hc
   refine xI ⟨L,.ro (.int j),.ro (.int ((i:Int)+j+more)),rfl,h1,fun k=>?_⟩
   rw [h2 k,iA]
   have:tm a b more many k i j=0:=by
    unfold tm
    rw [if_neg hc]
   rw [this]
   omega
 obtain ⟨d,e,L,rfl,h1,h2⟩:=lL rfl main
 exact ⟨L,h1,h2,e⟩
theorem sD {a b:List Int} {more:Int} {many e:Nat} {k:Int} {L:List Int} (h:ev k L=((aR 0 a.length).map fun i=>((aR 0 b.length).map fun j=>tm a b more many k i j).sum).sum) (he:0<=more+e)
  (hr:∀ i j:Int,0<=i->i<(a.length:Int)->0<=j->j<(b.length:Int)->(0<=i+j+more/\i+j+more<(many:Int))\/at0 a i*at0 b j=0):k ^ e*ev k L=k ^ (more+e).toNat*(ev k a*ev k b):=by
 rw [h,JE k a,JE k b,<- dG,<- pC,<- dG]
 congr 1
 refine List.map_congr_left fun i hi=>?_
 rw [<- dG,<- dG,<- dG]
 congr 1
 refine List.map_congr_left fun j hj=>?_
 have ri:=bI.1 hi
 have rj:=bI.1 hj
 unfold tm
 by_cases c:0<=i+j+more/\i+j+more<(many:Int)
 ·rw [if_pos c]
  have e1:k ^ e*k ^ (i+j+more).toNat=k ^ (more+e).toNat*(k ^ i.toNat*k ^ j.toNat):=by
   rw [<- Int.pow_add,<- Int.pow_add,<- Int.pow_add]
   congr 1
   omega
  calc k ^ e*(at0 a i*at0 b j*k ^ (i+j+more).toNat)=(at0 a i*at0 b j)*(k ^ e*k ^ (i+j+more).toNat):=by ac_rfl
   _=(at0 a i*at0 b j)*(k ^ (more+e).toNat*(k ^ i.toNat*k ^ j.toNat)):=by rw [e1]
   _=_:=by ac_rfl
 ·rw [if_neg c,Int.mul_zero]
  have z:=(hr i j (by omega) (by omega) (by omega) (by omega)).resolve_left c
  calc (0:Int)=k ^ (more+e).toNat*(at0 a i*at0 b j*(k ^ i.toNat*k ^ j.toNat)):=by rw [z,Int.zero_mul,Int.mul_zero]
   _=_:=by ac_rfl
end
theorem run_eq {n np:Nat} {b:SF} {ds:List D} {d:D} (hl:ds.length=np) (h:Rt (b (eA n ds)) fun e=>e=d):cM n np b ds=.ok d:=by
 obtain ⟨d',e,rfl⟩:=lL hl h
 exact e
section
variable {x y z:List (List Int)}
theorem MD (h:x.length=0) (k:Int):ev k (shares x)=1:=by
 have:x=[]:=List.length_eq_zero_iff.1 h
 subst this
 rw [pD]
 show (k ^ (0:Nat)+0)=1
 rw [Int.pow_zero]
 rfl
theorem p9 (hl:z.length=x.length) (hs:shares z=shares x):aP z=aP x:=by
 unfold aP
 rw [hl,hs]
theorem BM {s t:Int} (h:Av x y z s t) (h0:x.length=0\/y.length=0) (k:Int):ev k (aP z)=ev k (aP x)*ev k (aP y):=by
 have hl:=h.len
 have sm:m6 x y s=0:=by unfold m6; rw [if_neg (by omega)]
 have one:∀ {u:List (List Int)},u.length=0->ev k (aP u)=1:=fun {u} hu=>by
  have:u=[]:=List.length_eq_zero_iff.1 hu
  subst this
  rw [nC.x5]
  show 1+k*0=1
  omega
 rcases h0 with h0 | h0
 ·have e:shares z=shares y:=nU 0 (by rw [aW,aW,hl,h0,Nat.zero_add]) fun k _=>by rw [MC h,sm,MD h0,Int.pow_zero,Int.one_mul,Int.one_mul]
  rw [p9 (by omega) e,one h0,Int.one_mul]
 ·have e:shares z=shares x:=nU 0 (by rw [aW,aW,hl,h0,Nat.add_zero]) fun k _=>by rw [MC h,sm,MD h0,Int.pow_zero,Int.one_mul,Int.mul_one]
  rw [p9 (by omega) e,one h0,Int.mul_one]
theorem RT {a b:List Int} {n:Nat} {ρ:cD} {v:Int} (ha:a.length=n) (hb:b.length=n) (hn:n<=20) (hv:v=n) (e1:aE bO (aE bO (aB 5) (aB 6)) (eC (.int 1)) ρ=some (.int v)) (e2:benv 1 [9,16] ρ=[none,some (aG a),some (aG b)]) :
  bV 1 [9,16] (aU (aA (aE bO (aE bO (aB 5) (aB 6)) (eC (.int 1))) aC)) (g1 0) cL (aE bO (aE fA (aB 1) (aB 0)) (aE fA (aB 2) (aB 0))) ρ=some (aG (gT a b)):=by
 have e5:gT a b=(aR 0 n).map fun d=>at0 a d+at0 b d:=vW (by rw [eF (by omega),List.length_map,aO,ha]) fun i hi=>by
  rw [eF (by omega)] at hi
  rw [GL (by omega),pE (f:=fun d=>at0 a d+at0 b d) (by omega)]
 rw [e5]
 have e6:aG ((aR 0 n).map fun d=>at0 a d+at0 b d)=.lst ((aR 0 n).map fun d=>D.int (at0 a d+at0 b d)):=by unfold aG; rw [List.map_map]; rfl
 rw [e6]
 refine i8 ((aR 0 n).map D.int) (QF (by rw [e1,hv]) (by omega)) (by rw [List.length_map,aO]; omega) ?_
 rw [e2]
 refine fI D.int (fun d=>.int (at0 a d+at0 b d)) _ fun d hd=>?_
 have hr:=bI.1 hd
 exact ⟨[some (.int d),some (aG a),some (aG b)],rfl,bP (x:=.int (at0 a d)) (y:=.int (at0 b d)) (bP (x:=aG a) (y:=.int d) rfl rfl (mY (by omega) (by omega))) (bP (x:=aG b) (y:=.int d) rfl rfl (mY (by omega) (by omega))) fH⟩
end
theorem Z3 (x y:List (List Int)) (sm:Nat) (U1:sm=if 1<=x.length/\1<=y.length then 1 else 0) {ρ:cD} (h5:aB 5 ρ=some (.int x.length)) (h6:aB 6 ρ=some (.int y.length)):cB qG (aA (mR (aE AG (aB 5) (eC (.int 0))) (aE AG (aB 6) (eC (.int 0)))) aC) ρ=some (.int sm):=by
 refine eX (x:=.bl (decide (1<=x.length/\1<=y.length))) ?_ ?_
 ·unfold mR
  rw [bP (g:=AG) h5 (b:=eC (.int 0)) (y:=.int 0) rfl mT,bP (g:=AG) h6 (b:=eC (.int 0)) (y:=.int 0) rfl mT]
  show (if decide ((0:Int)<x.length)=true then some (D.bl (decide ((0:Int)<y.length))) else some (.bl false))=_
  by_cases h:1<=x.length
  ·rw [if_pos (by simp; omega)]
   congr 2
   rw [decide_eq_decide]
   omega
  ·rw [if_neg (by rw [decide_eq_true_eq]; omega),decide_eq_false (by omega)]
 ·show some (D.int (if decide (1<=x.length/\1<=y.length)=true then 1 else 0))=_
  subst U1
  by_cases h:1<=x.length/\1<=y.length
  ·rw [if_pos (by simpa using h),if_pos h]; rfl
  ·rw [if_neg (by simpa using h),if_neg h]; rfl
noncomputable abbrev st (ns:List Int) (p q r:Int) (x y:List (List Int)) (k:Int) (v9 v10 v11 v12 v13 v14 v15 v16:Sv):bF:=[.ro (.nN ns),.ro (aG [p,q,r]),.ro (aV x),.ro (aV y),.ro (.int k),.ro (.int x.length),.ro (.int y.length),.ro (aG (shares x)),.ro (aG (shares y)),v9,v10,v11,v12,v13,v14,v15,v16]
theorem RU (ns:List Int) (hns:ns.length<=63):rR [.nN ns]=.ok (.bl true):=by
 obtain ⟨c0,ec0⟩:=vL ns 0
 obtain ⟨hs,hsl,hsp,eh⟩:=xJ c0 3 100003 (by decide) (by decide)
 obtain ⟨c5,ec5⟩:=vL ns 5
 have m60:∀ ρ,aE uX (eC (.int 10)) (eC (.int 60)) ρ=some (.int (10 ^ 60)):=fun ρ=>QM (i:=10) (j:=60) ρ (by decide +kernel)
 have p60:(0:Int)<2*10 ^ 60 - 1:=by decide +kernel
 obtain ⟨g,g0,g1,eg⟩:=QN c5 400009 p60
 match hs,hsl,hsp,eh with
 | [p,q,r],_,hsp,eh =>
  obtain ⟨most,aCO,aCP⟩:∃ most:Int,(0<=most/\most<=5)/\aE fA (eW (aA (eC (.int 4)) (aA (eC (.int 5)) aC))) (cB qG (aA (aE tG (aE iJ (aE fA (aB 1) (eC (.int 0))) (eC (.int 8))) (eC (.int 3))) aC)) (lI [.ro (.nN ns),.ro (aG [p,q,r]),.no,.no,.no,.no,.no,.no,.no,.no,.no,.no,.no,.no,.no,.no,.no])=some (.int most):=by
   have e1:cB qG (aA (aE tG (aE iJ (aE fA (aB 1) (eC (.int 0))) (eC (.int 8))) (eC (.int 3))) aC) (lI [.ro (.nN ns),.ro (aG [p,q,r]),.no,.no,.no,.no,.no,.no,.no,.no,.no,.no,.no,.no,.no,.no,.no])=some (.int (if p % 8=3 then 1 else 0)):=by
    refine eX (x:=.bl (decide (p % 8=3))) (bP (x:=.int (p % 8)) (y:=.int 3) (bP (x:=.int p) (y:=.int 8) rfl rfl (eQ (by decide))) rfl gP) ?_
    show some (D.int (if decide (p % 8=3)=true then 1 else 0))=_
    by_cases h:p % 8=3<;>simp [h]
   by_cases h:p % 8=3
   ·rw [if_pos h] at e1
    exact ⟨5,by decide,bP (x:=aG [4,5]) rfl e1 rfl⟩
   ·rw [if_neg h] at e1
    exact ⟨4,by decide,bP (x:=aG [4,5]) rfl e1 rfl⟩
  obtain ⟨d,ed,x,lx,rx,rfl⟩:=FT ns 1 most 200017 aCO.1 (by omega)
  obtain ⟨d,ed2,y,ly,ry,rfl⟩:=FT ns 3 4 300007 (by decide) (by decide)
  have hx5:x.length<=5:=by omega
  have hy4:y.length<=4:=by omega
  have Z4:∀ {y:List (List Int)},Ord.Rows y->y.length<=9 -> ∀ r∈y,r.length<=9:=fun {y} hy hyl r hm=>Nat.le_trans (hy.short hm) hyl
  have hm0:=Int.emod_nonneg q (b:=9) (by decide)
  have hm1:=Int.emod_lt_of_pos q (b:=9) (by decide)
  have sl:=aW x
  have sl2:=aW y
  have avp:=RS rx ry
  have avs:=NP rx ry
  have lS:(Ord.side x y).length=x.length+y.length:=(MB rx ry).len
  have lP:=avp.len
  have lT:=avs.len
  have rS:=rx.side ry
  have rP:=rx.plain ry
  have rT:=rx.strict ry
  have smP:m6 x y 0=0:=by unfold m6; rw [if_neg (by omega)]
  obtain ⟨sm,hsm,U1⟩:∃ sm:Nat,m6 x y y.length=sm/\(sm=if 1<=x.length/\1<=y.length then 1 else 0):=⟨_,rfl,by
   unfold m6
   by_cases h:1<=x.length/\1<=y.length
   ·rw [if_pos ⟨h.1,h.2,rfl⟩,if_pos h]
   ·rw [if_neg (fun c=>h ⟨c.1,c.2.1⟩),if_neg h]⟩
  have sm1:sm<=1:=by rw [U1]; split<;>omega
  have shb:∀ {u:List (List Int)},u.length<=9 -> ∀ c∈shares u,Bg 2500 c:=fun {u} hu c hc=>(qP hu c hc).mono (by omega)
  obtain ⟨L1,l1,e1,t1⟩:=sC (a:=shares x) (b:=shares y) (more:=0) (many:=max 1 (x.length+y.length)) (by omega) (by omega) (by omega) (shb (by omega)) (shb (by omega))
  obtain ⟨L2,l2,e2,t2⟩:=sC (a:=shares x) (b:=shares y) (more:=sm) (many:=max 1 (x.length+y.length)) (by omega) (by omega) (by omega) (shb (by omega)) (shb (by omega))
  have tx:=nC.eZ x
  have ty:=nC.eZ y
  obtain ⟨L3,l3,e3,t3⟩:=sC (a:=aP x) (b:=aP y) (more:=0) (many:=x.length+y.length+1) (by omega) (by omega) (by omega) (nC.m4 (by omega)) (nC.m4 (by omega))
  obtain ⟨L4,l4,e4,t4⟩:=sC (a:=aP x) (b:=aP y) (more:=-1) (many:=x.length+y.length+1) (by omega) (by omega) (by omega) (nC.m4 (by omega)) (nC.m4 (by omega))
  have q1:L1=shares (Ord.plain x y):=nU 0 (by rw [l1,aW,lP]; omega) fun k _=>by
   have:=sD (e:=0) (e1 k) (by omega) fun i j i0 i1 j0 j1=>.inl ⟨by omega,by omega⟩
   rw [MC avp,smP,Int.pow_zero,Int.one_mul]
   rw [Int.pow_zero,Int.one_mul] at this
   rw [this]
   rw [show ((0:Int)+((0:Nat):Int)).toNat=0 from rfl,Int.pow_zero,Int.one_mul]
  have q2:L2=shares (Ord.strict x y):=nU 0 (by rw [l2,aW,lT]; omega) fun k _=>by
   have:=sD (e:=0) (e2 k) (by omega) fun i j i0 i1 j0 j1=>.inl ⟨by omega,by
    by_cases h:1<=x.length/\1<=y.length
    ·rw [if_pos h] at U1; omega
    ·rw [if_neg h] at U1; omega⟩
   rw [Int.pow_zero,Int.one_mul] at this
   rw [this,MC avs,hsm]
   congr 2
  have q3e:∀ k:Int,ev k L3=ev k (aP x)*ev k (aP y):=fun k=>by
   have:=sD (e:=0) (e3 k) (by omega) fun i j i0 i1 j0 j1=>.inl ⟨by omega,by omega⟩
   rw [Int.pow_zero,Int.one_mul] at this
   rw [this]
   rw [show ((0:Int)+((0:Nat):Int)).toNat=0 from rfl,Int.pow_zero,Int.one_mul]
  have q3:L3=aP (Ord.strict x y):=nU 1 (by rw [l3,nC.eZ,lT]) fun k hk=>by
   rw [q3e]
   by_cases h:1<=x.length/\1<=y.length
   ·have:=GQ avs h.1 h.2 k
    rw [if_pos h] at U1
    rw [hsm,if_pos U1] at this
    exact (Int.eq_of_mul_eq_mul_left (a:=(k:Int)) (by omega) this).symm
   ·exact (BM avs (by omega) k).symm
  have q4:1<=x.length/\1<=y.length->gT L3 L4=aP (Ord.plain x y):=fun h=>nU 1 (by rw [eF (by omega),l3,nC.eZ,lP]) fun k hk=>by
   have z:at0 (aP x) 0=0:=by
    rw [nC.BG rfl h.1]
    rfl
   have:=sD (e:=1) (e4 k) (by omega) fun i j i0 i1 j0 j1=>by
    by_cases c:i=0/\j=0
    ·refine .inr ?_
     rw [c.1,z,Int.zero_mul]
    ·exact .inl ⟨by omega,by omega⟩
   have h2:=GQ avp h.1 h.2 k
   rw [smP,if_neg (by decide)] at h2
   refine Int.eq_of_mul_eq_mul_left (a:=(k:Int)) (by omega) ?_
   rw [h2,DS k (by omega),Int.mul_add,q3e,Int.add_mul,Int.one_mul]
   have e5:(k:Int)*ev k L4=ev k (aP x)*ev k (aP y):=by
    have t:(k:Int) ^ 1*ev k L4=(k:Int) ^ (0:Nat)*(ev k (aP x)*ev k (aP y)):=this
    rw [Int.pow_zero,Int.one_mul,Int.pow_succ,Int.pow_zero,Int.one_mul] at t
    exact t
   rw [e5]
   omega
  have q5:¬ (1<=x.length/\1<=y.length)->L3=aP (Ord.plain x y):=fun h=>nU 0 (by rw [l3,nC.eZ,lP]) fun k hk=>by rw [q3e,BM avp (by omega)]
  have dP:=pA (x:=Ord.plain x y) (by omega) (Z4 rP (by omega))
  have dT:=pA (x:=Ord.strict x y) (by omega) (Z4 rT (by omega))
  have sP:=GC (x:=Ord.plain x y) (by omega) (Z4 rP (by omega))
  have sT:=GC (x:=Ord.strict x y) (by omega) (Z4 rT (by omega))
  unfold rR
  refine run_eq rfl ?_
  refine bL [.ro (.nN ns),.ro (aG [p,q,r]),.no,.no,.no,.no,.no,.no,.no,.no,.no,.no,.no,.no,.no,.no,.no] (fV _ (lM (dD rfl rfl ec0) rfl rfl eh) rfl) ?_
  refine bL [.ro (.nN ns),.ro (aG [p,q,r]),.ro (aV x),.no,.no,.no,.no,.no,.no,.no,.no,.no,.no,.no,.no,.no,.no] (fV _ (tS rfl rfl aCP rfl ed) rfl) ?_
  refine bL [.ro (.nN ns),.ro (aG [p,q,r]),.ro (aV x),.ro (aV y),.no,.no,.no,.no,.no,.no,.no,.no,.no,.no,.no,.no,.no] (fV _ (tS rfl rfl rfl rfl ed2) rfl) ?_
  refine bL [.ro (.nN ns),.ro (aG [p,q,r]),.ro (aV x),.ro (aV y),.ro (.int (q % 9 - 4)),.no,.no,.no,.no,.no,.no,.no,.no,.no,.no,.no,.no] (fV (.int (q % 9 - 4)) (bP (x:=.int (q % 9)) (y:=.int 4) (bP (x:=.int q) (y:=.int 9) rfl rfl (eQ (by decide))) rfl rfl) rfl) ?_
  refine kA (fun ρ=>∃ k:Int,Bg 208 k/\ρ=[.ro (.nN ns),.ro (aG [p,q,r]),.ro (aV x),.ro (aV y),.ro (.int k),.no,.no,.no,.no,.no,.no,.no,.no,.no,.no,.no,.no]) ?_ fun ρ ⟨k,hk,e⟩=>?_
  ·refine FR (decide (r % 2=1)) (DJ (bP (x:=.int (r % 2)) (y:=.int 1) (bP (x:=.int r) (y:=.int 2) rfl rfl (eQ (by decide))) rfl gP) rfl) (fun _=>qM (.int (g - 10 ^ 60+1)) (bP (x:=.int (g - 10 ^ 60)) (y:=.int 1) (bP (x:=.int g) (y:=.int (10 ^ 60)) (lM (x:=.int c5) (y:=.int (2*10 ^ 60 - 1)) (z:=.int 400009) (dD rfl rfl ec5) (bP (x:=.int (2*10 ^ 60)) (y:=.int 1) (bP (x:=.int 2) (y:=.int (10 ^ 60)) rfl (m60 _) (lK (by decide))) rfl rfl) rfl eg) (m60 _) rfl) rfl fH) ⟨_,?_,rfl⟩) fun _=>xI ⟨_,?_,rfl⟩
   ·have h60:(10:Nat) ^ 60<2 ^ 208:=by decide +kernel
    have n60:((10:Int) ^ 60).natAbs=10 ^ 60:=by decide +kernel
    unfold Bg
    omega
   ·have h:(q % 9 - 4).natAbs<2 ^ 10:=by omega
    exact Nat.lt_of_lt_of_le h (Nat.pow_le_pow_right (by decide) (by decide))
  subst e
  have aCQ:∀ {u:List (List Int)},u.length<=9->Bg 1970 (DV u.length 0 (shares u) k):=fun {u} hu=>by
   have hl:=aW u
   exact (IY (a:=30) (b:=1900) (fun d hd=>(QW (rW hk (by omega) (by omega)) (by omega)).mono (by omega)) (shares u) 0 (by omega) (qP hu)).mono (by omega)
  have vv:∀ {u:List (List Int)},u.length<=9->fW [aG (shares u),.int u.length,.int k]=.ok (.int (DV u.length 0 (shares u) k)):=fun {u} hu=>JH (by have:=aW u; omega) (fun c hc=>by have:=kF hu c hc; omega) (by omega) hk
  have cS:=Q0 (x:=Ord.side x y) (by omega) (Z4 rS (by omega)) hk
  rw [JD (MB rx ry) k] at cS
  have ux:=aCQ (u:=x) (by omega)
  have uy:=aCQ (u:=y) (by omega)
  have vx:=vv (u:=x) (by omega)
  have vy:=vv (u:=y) (by omega)
  generalize DV x.length 0 (shares x) k=U at ux vx cS
  generalize DV y.length 0 (shares y) k=V at uy vy cS
  refine bL [.ro (.nN ns),.ro (aG [p,q,r]),.ro (aV x),.ro (aV y),.ro (.int k),.ro (.int x.length),.no,.no,.no,.no,.no,.no,.no,.no,.no,.no,.no] (fV _ (eX rfl eD) rfl) ?_
  refine bL [.ro (.nN ns),.ro (aG [p,q,r]),.ro (aV x),.ro (aV y),.ro (.int k),.ro (.int x.length),.ro (.int y.length),.no,.no,.no,.no,.no,.no,.no,.no,.no,.no] (fV _ (eX rfl eD) rfl) ?_
  refine bL [.ro (.nN ns),.ro (aG [p,q,r]),.ro (aV x),.ro (aV y),.ro (.int k),.ro (.int x.length),.ro (.int y.length),.ro (aG (shares x)),.no,.no,.no,.no,.no,.no,.no,.no,.no] (fV _ (h8 rfl (uM (by omega) (Z4 rx (by omega)))) rfl) ?_
  refine bL (st ns p q r x y k .no .no .no .no .no .no .no .no) (fV _ (h8 rfl (uM (by omega) (Z4 ry (by omega)))) rfl) ?_
  refine bL (st ns p q r x y k (.ro (.int (U*V))) .no .no .no .no .no .no .no) (fV (.int (U*V)) (bP (x:=.int U) (y:=.int V) (lM rfl rfl rfl vx) (lM rfl rfl rfl vy) (vO (p:=1970) (q:=1970) (by omega) (by omega) ux uy)) rfl) ?_
  refine bL _ (xF (tnE (b:=true) (DJ (dD (x:=.int (U*V)) (y:=.int (U*V)) (dD (x:=aV (Ord.side x y)) (y:=.int k) (dD rfl rfl (V0 rx ry (by omega))) rfl cS) rfl (same_refl 6 (.int (U*V)) trivial)) rfl) rfl) rfl) ?_
  refine bL (st ns p q r x y k (.ro (.int (U*V))) (.ro (aG (aP x))) .no .no .no .no .no .no) (fV _ (dD rfl rfl (yF (by omega))) rfl) ?_
  refine bL (st ns p q r x y k (.ro (.int (U*V))) (.ro (aG (aP x))) (.ro (aG (aP y))) .no .no .no .no .no) (fV _ (dD rfl rfl (yF (by omega))) rfl) ?_
  refine bL (st ns p q r x y k (.ro (.int (U*V))) (.ro (aG (aP x))) (.ro (aG (aP y))) (.ro (.int sm)) .no .no .no .no) (fV _ (Z3 x y sm U1 rfl rfl) rfl) ?_
  refine bL (st ns p q r x y k (.ro (.int (U*V))) (.ro (aG (aP x))) (.ro (aG (aP y))) (.ro (.int sm)) (.ro (aV (Ord.plain x y))) .no .no .no) (fV _ (dD rfl rfl (RR rx ry (by omega))) rfl) ?_
  refine bL (st ns p q r x y k (.ro (.int (U*V))) (.ro (aG (aP x))) (.ro (aG (aP y))) (.ro (.int sm)) (.ro (aV (Ord.plain x y))) (.ro (aV (Ord.strict x y))) .no .no) (fV _ (dD rfl rfl (NO rx ry (by omega))) rfl) ?_
  refine bL (st ns p q r x y k (.ro (.int (U*V))) (.ro (aG (aP x))) (.ro (aG (aP y))) (.ro (.int sm)) (.ro (aV (Ord.plain x y))) (.ro (aV (Ord.strict x y))) (.ro (.int (max 1 (x.length+y.length):Nat))) .no) (fV (.int (max 1 (x.length+y.length):Nat)) (VJ (x:=.int 1) (y:=.int ((x.length:Int)+y.length)) rfl rfl (by
   show some (D.int (if (x.length:Int)+y.length>1 then (x.length:Int)+y.length else 1))=_
   congr 2
   split<;>omega)) rfl) ?_
  have ME:∀ {l:List Int},l.length<=100->LL.bR 6 [tupI l,tupI l]=.ok (.bl true):=fun {l} h=>same_refl 6 (tupI l) (IS (by omega))
  have n1:(shares (Ord.plain x y)).length<=100:=by rw [aW]; omega
  have n2:(shares (Ord.strict x y)).length<=100:=by rw [aW]; omega
  have n3:(aP (Ord.strict x y)).length<=100:=by rw [nC.eZ]; omega
  have n4:(aP (Ord.plain x y)).length<=100:=by rw [nC.eZ]; omega
  rw [q1] at t1
  rw [q2] at t2
  rw [q3] at t3
  refine bL _ (xF (tnE (b:=true) (DJ (dD (x:=tupI (shares (Ord.plain x y))) (y:=tupI (shares (Ord.plain x y))) (h8 rfl dP) (eX (x:=aG (shares (Ord.plain x y))) (tS rfl rfl rfl rfl t1) rfl) (ME n1)) rfl) rfl) rfl) ?_
  refine bL _ (xF (tnE (b:=true) (DJ (dD (x:=tupI (shares (Ord.strict x y))) (y:=tupI (shares (Ord.strict x y))) (h8 rfl dT) (eX (x:=aG (shares (Ord.strict x y))) (tS rfl rfl rfl rfl t2) rfl) (ME n2)) rfl) rfl) rfl) ?_
  refine bL (st ns p q r x y k (.ro (aG (aP (Ord.strict x y)))) (.ro (aG (aP x))) (.ro (aG (aP y))) (.ro (.int sm)) (.ro (aV (Ord.plain x y))) (.ro (aV (Ord.strict x y))) (.ro (.int (max 1 (x.length+y.length):Nat))) .no) (fV _ (tS rfl rfl rfl rfl t3) rfl) ?_
  refine bL _ (xF (tnE (b:=true) (DJ (dD (x:=tupI (aP (Ord.strict x y))) (y:=tupI (aP (Ord.strict x y))) (h8 rfl sT) (eX (x:=aG (aP (Ord.strict x y))) rfl rfl) (ME n3)) rfl) rfl) rfl) ?_
  refine kA (fun ρ=>∃ v16,ρ=st ns p q r x y k (.ro (aG (aP (Ord.plain x y)))) (.ro (aG (aP x))) (.ro (aG (aP y))) (.ro (.int sm)) (.ro (aV (Ord.plain x y))) (.ro (aV (Ord.strict x y))) (.ro (.int (max 1 (x.length+y.length):Nat))) v16) ?_ fun ρ ⟨v16,e⟩=>?_
  ·refine FR (decide ((sm:Int)=1)) (DJ (bP (x:=.int sm) (y:=.int 1) rfl rfl gP) rfl) (fun hc=>?_) fun hc=>?_
   ·have hc:=of_decide_eq_true hc
    have hb:1<=x.length/\1<=y.length:=by
     refine Classical.byContradiction fun h=>?_
     rw [if_neg h] at U1
     omega
    refine mV (st ns p q r x y k (.ro (aG (aP (Ord.strict x y)))) (.ro (aG (aP x))) (.ro (aG (aP y))) (.ro (.int sm)) (.ro (aV (Ord.plain x y))) (.ro (aV (Ord.strict x y))) (.ro (.int (max 1 (x.length+y.length):Nat))) (.ro (aG L4))) (fV (aG L4) (tS rfl rfl rfl rfl t4) rfl) ?_
    rw [q3] at q4 l3
    refine qM (aG (gT (aP (Ord.strict x y)) L4)) (RT (v:=(x.length:Int)+y.length+1) l3 l4 (by omega) (by omega) rfl rfl) ⟨.ro (aG L4),?_⟩
    rw [q4 hb]
    rfl
   ·have hc:=of_decide_eq_false hc
    have hb:¬ (1<=x.length/\1<=y.length):=fun h=>by
     rw [if_pos h] at U1
     omega
    rw [<- q3,q5 hb]
    exact xI ⟨.no,rfl⟩
  ·subst e
   exact kB (.bl true) (dD (x:=tupI (aP (Ord.plain x y))) (y:=tupI (aP (Ord.plain x y))) (h8 rfl sP) (eX (x:=aG (aP (Ord.plain x y))) rfl rfl) (ME n4)) rfl
end K48
end
section
-- CHANGE: your row's module here,as the last of these rows
namespace L2
open PySem PySem.Spec PyProof.Rows
noncomputable abbrev Key:=Sum Int Str
noncomputable def BN:Key->Value->Bool
 | .inl k,v=>Value.isInt k v
 | .inr x,v=>Value.isStrOf x v
noncomputable def aGd (w:World):Key->Int
 | .inl k=>hashInt k
 | .inr x=>hashStr w x
theorem dS:∀ {k:Key} {v:Value},BN k v=true->(∃ i t,k=Sum.inl i/\v=Value.int i t)\/(∃ x t,k=Sum.inr x/\v=Value.str x t)
 | .inl i,v,h=>by
  obtain ⟨t,e⟩:=Value.isInt_shape (k:=i) (v:=v) h
  exact .inl ⟨i,t,rfl,e⟩
 | .inr x,v,h=>by
  obtain ⟨t,e⟩:=Value.isStrOf_shape (x:=x) (v:=v) h
  exact .inr ⟨x,t,rfl,e⟩
theorem NQ (i:Int) (t:Tok):BN (.inl i) (.int i t)=true:=by simp [BN,Value.isInt]
theorem NR (x:Str) (t:Tok):BN (.inr x) (.str x t)=true:=by simp [BN,Value.isStrOf]
theorem Z5 (a b:Int):decide ((Sum.inl a:Key)=Sum.inl b)=(a == b):=by
 by_cases e:a=b
 ·subst e; simp
 ·have h:¬ (Sum.inl a:Key)=Sum.inl b:=fun q=>e (Sum.inl.inj q)
  rw [decide_eq_false h]
  exact (beq_eq_false_iff_ne.mpr e).symm
theorem Z6 (a b:Str):decide ((Sum.inr a:Key)=Sum.inr b)=decide (a=b):=by
 by_cases e:a=b
 ·subst e; simp
 ·have h:¬ (Sum.inr a:Key)=Sum.inr b:=fun q=>e (Sum.inr.inj q)
  rw [decide_eq_false h,decide_eq_false e]
theorem Z7 (a:Int) (b:Str):decide ((Sum.inl a:Key)=Sum.inr b)=false:=decide_eq_false (fun q=>nomatch q)
theorem Z8 (a:Str) (b:Int):decide ((Sum.inr a:Key)=Sum.inl b)=false:=decide_eq_false (fun q=>nomatch q)
noncomputable def bM (prog:Program) (w:World):PySem.KeyKind prog w Key where
 is:=BN
 hash:=aGd w
 inj:=fun v a b ha hb=>by
  rcases dS ha with ⟨i,t,rfl,rfl⟩ | ⟨x,t,rfl,rfl⟩
  ·rcases dS hb with ⟨j,u,rfl,e⟩ | ⟨y,u,rfl,e⟩
   ·injection e with e1 _; rw [e1]
   ·exact nomatch e
  ·rcases dS hb with ⟨j,u,rfl,e⟩ | ⟨y,u,rfl,e⟩
   ·exact nomatch e
   ·injection e with e1 _; rw [e1]
 byValue:=fun k v h=>by
  rcases dS h with ⟨i,t,rfl,rfl⟩ | ⟨x,t,rfl,rfl⟩<;>rfl
 pyHash:=fun hv h=>by
  rcases dS hv with ⟨i,t,rfl,rfl⟩ | ⟨x,t,rfl,rfl⟩
  ·exact wpAny_pyHash_int h
  ·exact wpAny_pyHash_str h
 eqBool:=fun hu hv h=>by
  rcases dS hu with ⟨i,t,rfl,rfl⟩ | ⟨x,t,rfl,rfl⟩
  ·rcases dS hv with ⟨j,u,rfl,rfl⟩ | ⟨y,u,rfl,rfl⟩
   ·rw [Z5] at h; exact wpAny_eqBool_int h
   ·rw [Z7] at h; exact SeqAt.EqAt.int_str i t y u _ _ _ _ h
  ·rcases dS hv with ⟨j,u,rfl,rfl⟩ | ⟨y,u,rfl,rfl⟩
   ·rw [Z8] at h; exact SeqAt.EqAt.str_int x t j u _ _ _ _ h
   ·rw [Z6] at h; exact wpAny_eqBool_str h
 «strs»:=fun k x t v h=>by
  rcases dS h with ⟨i,u,rfl,e⟩ | ⟨y,u,rfl,e⟩
  ·exact nomatch e
  ·injection e with e1 _
   subst e1
   cases v<;>rfl
theorem GR (prog:Program) (w:World) (i:Int) (t:Tok):(bM prog w).is (.inl i) (.int i t)=true:=NQ i t
theorem GS (prog:Program) (w:World) (x:Str) (t:Tok):(bM prog w).is (.inr x) (.str x t)=true:=NR x t
end L2
namespace L2
open PySem PySem.Spec PyProof.Rows
noncomputable abbrev N1:=List (Sum Key (List Key))
noncomputable abbrev KX:=Sum Key N1
section
variable {prog:Program} {w:World} {K:Type} [dK:DecidableEq K] (knd:KeyKind prog w K)
noncomputable def qS (h:Heap):Sum K (List K)->Value->Prop
 | .inl k,v=>knd.is k v=true
 | .inr ks,v=>∃ b,v=.ref b/\IsTupleKey knd h ks b
inductive iB (h:Heap):List (Sum K (List K))->List Value->Prop
 | nil:iB h [] []
 | cons {k:Sum K (List K)} {v:Value} {ks:List (Sum K (List K))} {vs:List Value}:qS knd h k v->iB h ks vs->iB h (k::ks) (v::vs)
noncomputable def iO (h:Heap) (ks:List (Sum K (List K))) (a:Addr):Prop:=∃ o items n,h.get? a=some o/\o.cls=.type "tuple" /\ o.data=.seq items n/\iB knd h ks items.toList
variable {knd}
theorem qS.inj {h:Heap} {v:Value}:∀ {x y:Sum K (List K)},qS knd h x v->qS knd h y v->x=y
 | .inl a,.inl b,hx,hy=>by rw [knd.inj _ _ _ hx hy]
 | .inl a,.inr b,hx,⟨q,e,_⟩=>by subst e; exact absurd (knd.byValue _ _ hx) (by simp [carriedByValue])
 | .inr a,.inl b,⟨q,e,_⟩,hy=>by subst e; exact absurd (knd.byValue _ _ hy) (by simp [carriedByValue])
 | .inr a,.inr b,⟨q,e,hx⟩,⟨r,f,hy⟩=>by
  subst e
  injection f with f
  subst f
  rw [hx.inj hy]
theorem iB.inj {h:Heap} {x:List (Sum K (List K))} {vs:List Value} (hx:iB knd h x vs):∀ {y},iB knd h y vs->x=y:=by
 induction hx with
 | nil=>intro y hy; cases hy; rfl
 | cons h1 _ ih =>
  intro y hy
  cases hy with
  | cons h2 t2=>rw [h1.inj h2,ih t2]
theorem iO.typeIs {s:Shared} {ks:List (Sum K (List K))} {a:Addr} (x:iO knd s.heap ks a):s.TypeIs (.ref a) "tuple" := let ⟨o,_,_,ho,hc,_⟩:=x; ⟨o,ho,hc⟩
theorem iO.inj {h:Heap} {a:Addr} {x y:List (Sum K (List K))} (hx:iO knd h x a) (hy:iO knd h y a):x=y:=by
 obtain ⟨o,its,n,ho,_,hd,hi⟩:=hx
 obtain ⟨o',its',n',ho',_,hd',hi'⟩:=hy
 rw [ho] at ho'
 cases ho'
 rw [hd] at hd'
 cases hd'
 exact hi.inj hi'
theorem iO.keeps {h h':Heap} {ks:List (Sum K (List K))} {a d:Addr} {o:Obj} {es ep} (x:iO knd h ks a) (ho:h.get? d=some o) (hd:o.data=.dict es ep) (hs:Heap.SameBut d h h'):iO knd h' ks a:=by
 obtain ⟨q,items,n,hq,hc,hi,his⟩:=x
 have ne:a≠d:=fun z=>by
  subst z
  rw [hq] at ho
  cases ho
  rw [hi] at hd
  cases hd
 refine ⟨q,items,n,(hs.2 a ne).trans hq,hc,hi,?_⟩
 have go:∀ {ks:List (Sum K (List K))} {vs:List Value},iB knd h ks vs->iB knd h' ks vs:=by
  intro ks vs t
  induction t with
  | nil=>exact .nil
  | @cons k v ks vs h1 _ ih =>
   refine .cons ?_ ih
   cases k with
   | inl k=>exact h1
   | inr k=>obtain ⟨b,e,hb⟩:=h1; exact ⟨b,e,hb.keeps ho hd hs⟩
 exact go his
noncomputable def sE (knd:KeyKind prog w K):Sum K (List K)->Int
 | .inl k=>knd.hash k
 | .inr ks=>tupleKeyHash knd ks
noncomputable def mH:Sum K (List K)->Nat
 | .inl _=>1
 | .inr ks=>ks.length+1
noncomputable def yG (knd:KeyKind prog w K) (ks:List (Sum K (List K))):Int:=reduceHash (Builtin.Tuple.tupleHashOf (ks.map (sE knd)))
noncomputable def pF (ks:List (Sum K (List K))):Nat:=(ks.map mH).sum+1
variable {s:Shared} {A:Around} {E:Value->Shared->Prop}
theorem NS {k:Sum K (List K)} {v:Value} {Q:Int->Shared->Prop} (hu:A.units<cLine) (hk:qS knd s.heap k v) (h:Q (sE knd k) { s with toks:=s.toks+mH k }):wpAny (model prog w) A (pyHash v) Q E s:=by
 cases k with
 | inl k=>exact knd.pyHash hk h
 | inr k =>
  obtain ⟨b,e,hb⟩:=hk
  subst e
  exact wpAny_pyHash_tuple hu hb h
theorem yH {ks:List K} {b:Addr} {h:Heap} (x:IsTupleKey knd h ks b):∃ items,h.IsTuple b items:=by
 obtain ⟨o,items,n,ho,hc,hd,_⟩:=x
 exact ⟨items,o,ho,hc,n,hd⟩
end
section
variable {P:Program} {w:World} {A:Around} {E:Value->Shared->Prop} {s:Shared}
theorem V3 {x y:Sum Key (List Key)} {u v:Value} {Q:Bool->Shared->Prop} (hu:A.units<cLine) (hx:qS (bM P w) s.heap x u) (hy:qS (bM P w) s.heap y v) (h:Q (decide (x=y)) s):wpAny (model P w) A (eqBool u v) Q E s:=by
 cases x with
 | inl x =>
  cases y with
  | inl y =>
   refine (bM P w).eqBool hx hy ?_
   rw [show decide (x=y)=decide ((Sum.inl x:Sum Key (List Key))=Sum.inl y) by simp]
   exact h
  | inr y =>
   obtain ⟨b,e,hb⟩:=hy
   subst e
   obtain ⟨its,hb⟩:=yH hb
   rw [show decide ((Sum.inl x:Sum Key (List Key))=Sum.inr y)=false by simp] at h
   rcases dS hx with ⟨i,t,rfl,rfl⟩ | ⟨i,t,rfl,rfl⟩
   ·exact SeqAt.EqAt.int_tuple i t hb hu P w E Q h
   ·exact SeqAt.EqAt.str_tuple i t hb hu P w E Q h
 | inr x =>
  obtain ⟨a,e,ha⟩:=hx
  subst e
  cases y with
  | inl y =>
   obtain ⟨its,ha⟩:=yH ha
   rw [show decide ((Sum.inr x:Sum Key (List Key))=Sum.inl y)=false by simp] at h
   rcases dS hy with ⟨i,t,rfl,rfl⟩ | ⟨i,t,rfl,rfl⟩
   ·exact SeqAt.EqAt.tuple_int i t ha hu P w E Q h
   ·exact SeqAt.EqAt.tuple_str i t ha hu P w E Q h
  | inr y =>
   obtain ⟨b,e,hb⟩:=hy
   subst e
   refine wpAny_eqBool_tuple hu ha hb ?_
   rw [show decide (x=y)=decide ((Sum.inr x:Sum Key (List Key))=Sum.inr y) by simp]
   exact h
theorem BO:∀ (rest:List Value) (left:List (Sum Key (List Key))) (b:Array Int) (s:Shared) (R:Array Int->Shared->Prop),A.units<cLine->iB (bM P w) s.heap left rest ->
  (∀ b':Array Int,b'.toList=b.toList++left.map (sE (bM P w))->R b' { s with toks:=s.toks+(left.map mH).sum }) ->
  wpAny (model P w) A (forIn rest b fun x r=>do
   let r' <- pyHash x
   pure (ForInStep.yield (r.push r'))) R E s
 | [],left,b,s,R,hu,t,k=>by
  cases t
  exact wpAny_pure (k b (by simp))
 | v::rest,left,b,s,R,hu,t,k=>by
  cases t with
  | @cons kk _ ks _ h1 h2 =>
   rw [List.forIn_cons]
   refine wpAny_bind (wpAny_bind (NS hu h1 (wpAny_pure ?_)))
   refine BO rest ks _ _ _ hu h2 fun b' e=>?_
   have:=k b' (by rw [e]; simp)
   simpa [Nat.add_assoc] using this
theorem NT {ks:List (Sum Key (List Key))} {a:Addr} {Q:Int->Shared->Prop} (hu:A.units+1<cLine) (hk:iO (bM P w) s.heap ks a) (h:Q (yG (bM P w) ks) { s with toks:=s.toks+pF ks }):wpAny (model P w) A (pyHash (.ref a)) Q E s:=by
 have hT:=hk.typeIs
 obtain ⟨o,its,n,ho,_,hd,hi⟩:=hk
 have sl:=F.slot_tuple_hash
 unfold pyHash pyHashByItsType
 wp_walk using wpAny_cRoomFor_or (.inr (by omega)),wpAny_specialOf hT sl.lookup,(wpAny_callSpecialIfBoundUnlessNone?_slot hT sl (wpAny_call_entry sl hT F.entry_tuple_hash ?_ (F.args_tuple_hash_1 _)))
 rw [hd]
 refine wpAny_pure (wpAny_pure (wpAny_bind ?_))
 rw [<- Array.forIn_toList]
 refine BO its.toList ks #[] s _ hu hi fun b eb=>?_
 dsimp only
 rw [eb,List.nil_append]
 unfold yG reduceHash at h
 refine wpAny_ret_mkInt ?_
 have e2:s.toks+(ks.map mH).sum+1=s.toks+pF ks:=by unfold pF; omega
 show wpAny (model P w) A (pyHashByItsType.reduced _) Q E { s with toks:=s.toks+(ks.map mH).sum+1 }
 rw [e2]
 unfold pyHashByItsType.reduced
 generalize Builtin.Tuple.tupleHashOf (ks.map (sE (bM P w)))=z at h ⊢
 by_cases hz:(decide (-(2 ^ 63:Int)<=z)&&decide (z<2 ^ 63))=true
 ·rw [if_pos hz] at h ⊢
  exact wpAny_pure h
 ·rw [if_neg hz] at h ⊢
  refine wpAny_bind (wpAny_rule ?_); exact wpAny_pure h
theorem eq_loop:∀ (x y:List (Sum Key (List Key))) (xs ys:List Value) (R:Option Fin×Unit->Shared->Prop),A.units<cLine->iB (bM P w) s.heap x xs->iB (bM P w) s.heap y ys ->
  (x≠y->R (some (.done (.ret (.bool false))),()) s)->((x=y↔xs.length=ys.length)->R (none,()) s) ->
  wpAny (model P w) A (forIn (xs.zip ys) ((none,()):Option Fin×Unit) fun p _=>do
   let c <- eqBool p.1 p.2
   if (!c)=true then do
    let q <- ret (Value.bool false)
    pure (ForInStep.done (some q,()))
   else pure (ForInStep.yield (none,()))) R E s
 | [],y,xs,ys,R,hu,hx,hy,k1,k2=>by
  cases hx
  refine wpAny_pure (k2 ?_)
  cases hy<;>simp
 | kx::x,[],xs,ys,R,hu,hx,hy,k1,k2=>by
  cases hx
  cases hy
  exact wpAny_pure (k2 (by simp))
 | kx::x,ky::y,xs,ys,R,hu,hx,hy,k1,k2=>by
  cases hx with
  | @cons _ u _ xs hx1 hx2 =>
   cases hy with
   | @cons _ v _ ys hy1 hy2 =>
    rw [List.zip_cons_cons,List.forIn_cons]
    refine wpAny_bind (wpAny_bind (V3 hu hx1 hy1 ?_))
    by_cases hk:kx=ky
    ·subst hk
     rw [decide_eq_true rfl,if_neg (by decide)]
     refine wpAny_pure (eq_loop x y xs ys R hu hx2 hy2 (fun n=>k1 (by simpa using n)) fun e=>k2 ?_)
     simpa using e
    ·rw [decide_eq_false hk,if_pos (by decide)]
     exact wpAny_bind (wpAny_pure (wpAny_pure (wpAny_pure (k1 (by simp [hk])))))
theorem V4 {x y:List (Sum Key (List Key))} {a b:Addr} {Q:Bool->Shared->Prop} (hu:A.units+1<cLine) (hx:iO (bM P w) s.heap x a) (hy:iO (bM P w) s.heap y b) (h:Q (decide (x=y)) s):wpAny (model P w) A (eqBool (.ref a) (.ref b)) Q E s:=by
 have tx:=hx.typeIs
 have ty:=hy.typeIs
 have sl:=F.slot_tuple_eq
 by_cases hab:a=b
 ·subst hab
  rw [hx.inj hy,decide_eq_true rfl] at h
  exact SeqAt.EqAt.same _ P w E Q h
 ·obtain ⟨oa,xs,na,hoa,_,hda,hia⟩:=hx
  obtain ⟨oc,ys,nb,hob,_,hdb,hib⟩:=hy
  unfold eqBool
  rw [if_neg (by simpa using hab)]
  have hu0:A.units<cLine:=by omega
  apply wpAny_holding; apply wpAny_bind
  refine (wpAny_richCompare_same_room (op:=.Eq) tx ty sl (wpAny_call_entry sl tx F.entry_tuple_eq ?_ (F.args_tuple_eq_2 _ _)) hu0)
  unfold Builtin.«tuple.__eq__»
  wp_walk using wpAny_isInstance ty isSubtype_tuple_tuple,wpAny_tupleItemsOf hoa hda,wpAny_tupleItemsOf hob hdb
  refine eq_loop x y xs.toList ys.toList _ hu hia hib (fun n=>?_) fun e=>?_
  ·rw [decide_eq_false n] at h
   exact wpAny_pure ⟨_,rfl,(fun z=>nomatch z),wpAny_truthy_bool h⟩
  ·refine wpAny_pure ⟨_,rfl,(fun z=>nomatch z),?_⟩
   have e2:(xs.size == ys.size)=decide (x=y):=by
    by_cases q:x=y
    ·rw [decide_eq_true q]; simpa using e.1 q
    ·rw [decide_eq_false q]; simpa using fun z=>q (e.2 z)
   show wpAny (model P w) A (truthOfDropped (.bool (xs.size == ys.size))) Q E s
   rw [e2]
   exact wpAny_truthy_bool h
theorem yI {d:Nat}:∀ (vs:List Value) (R:Option Bool×Unit->Shared->Prop),(∀ v∈vs,∀ Q:Bool->Shared->Prop,Q true s->wpAny (model P w) A (eqIsQuiet d v) Q E s)->R (none,()) s ->
  wpAny (model P w) A (forIn vs ((none,()):Option Bool×Unit) fun y _=>do
   let c <- eqIsQuiet d y
   if (!c)=true then pure (ForInStep.done (some false,()))
   else pure (ForInStep.yield (none,()))) R E s
 | [],R,hq,k=>wpAny_pure k
 | v::vs,R,hq,k=>by
  rw [List.forIn_cons]
  refine wpAny_bind (wpAny_bind (hq v List.mem_cons_self _ ?_))
  rw [if_neg (by decide)]
  exact wpAny_pure (yI vs R (fun u hu=>hq u (List.mem_cons_of_mem _ hu)) k)
theorem BP {d:Nat} {a:Addr} {o:Obj} {xs:Array Value} {n:Nat} {Q:Bool->Shared->Prop} (tx:s.TypeIs (Value.ref a) "tuple") (ho:s.heap.get? a=some o) (hd:o.data=.seq xs n) (hq:∀ v∈xs.toList,∀ Q:Bool->Shared->Prop,Q true s->wpAny (model P w) A (eqIsQuiet d v) Q E s) (h:Q true s) :
  wpAny (model P w) A (eqIsQuiet (d+1) (.ref a)) Q E s:=by
 have sl:=F.slot_tuple_eq
 unfold eqIsQuiet
 refine wpAny_bind (wpAny_specialOf tx sl.lookup ?_)
 show wpAny (model P w) A (isInstance (.ref a) (.type "tuple") >>= _) _ _ s
 refine wpAny_bind (wpAny_isInstance tx isSubtype_tuple_tuple ?_)
 rw [if_neg (by decide)]
 dsimp only
 refine wpAny_bind (wpAny_seqItems ho hd (wpAny_bind ?_))
 show wpAny _ _ (forIn xs _ _) _ _ s
 rw [<- Array.forIn_toList]
 exact yI xs.toList _ hq (wpAny_pure h)
theorem JI {x:List (Sum Key (List Key))} {a:Addr} {Q:Bool->Shared->Prop} (hx:iO (bM P w) s.heap x a) (h:Q true s):wpAny (model P w) A (eqIsQuiet 8 (.ref a)) Q E s:=by
 have tx:=hx.typeIs
 obtain ⟨o,xs,n,ho,_,hd,hi⟩:=hx
 refine BP (d:=7) tx ho hd ?_ h
 have go:∀ {ks:List (Sum Key (List Key))} {vs:List Value},iB (bM P w) s.heap ks vs -> ∀ v∈vs,∀ Q:Bool->Shared->Prop,Q true s->wpAny (model P w) A (eqIsQuiet 7 v) Q E s:=by
  intro ks vs t
  induction t with
  | nil=>intro v hv; cases hv
  | @cons k v ks vs h1 _ ih =>
   intro u hu Q k0
   rcases List.mem_cons.1 hu with e | hu
   ·subst e
    cases k with
    | inl k =>
     rw [eqIsQuiet_byValue _ ((bM P w).byValue _ _ h1)]
     exact wpAny_pure k0
    | inr k =>
     obtain ⟨b,e,hb⟩:=h1
     subst e
     have tb:=hb.typeIs
     obtain ⟨o',xs',n',ho',_,hd',hi'⟩:=hb
     refine BP (d:=6) tb ho' hd' (fun v' hv' Q' k'=>?_) k0
     rw [eqIsQuiet_byValue _ (hi'.byValue v' hv')]
     exact wpAny_pure k'
   ·exact ih u hu Q k0
 exact go hi
noncomputable def mI (P:Program) (w:World):HeapKind P w (List (Sum Key (List Key))) where
 is:=iO (bM P w)
 hash:=yG (bM P w)
 draws:=pF
 room:=fun A=>A.units+1<cLine
 inj:=fun hx hy=>hx.inj hy
 keeps:=fun x ho he hs=>x.keeps ho he hs
 pyHash:=fun hu hk h=>NT hu hk h
 eqBool:=fun hu hx hy h=>V4 hu hx hy h
 quiet:=fun hk h=>JI hk h
theorem nest_room (hu:A.units+2<cLine):(mI P w).room A.in1:=hu
end
end L2
namespace L2
open PySem PySem.Spec PyProof.Rows
inductive V where
 | non | bl (b:Bool) | int (i:Int) | str (x:Str) | NU (b:Array UInt8) | flt (b:UInt64) | ref (a:Addr) | ty (n:String)
 deriving DecidableEq
noncomputable def RelV:V->Value->Prop
 | .non,u=>u=Value.none
 | .bl b,u=>u=Value.bool b
 | .int i,u=>∃ t,u=Value.int i t
 | .str x,u=>∃ t,u=Value.str x t
 | .NU b,u=>∃ t,u=Value.bytes b t
 | .flt b,u=>∃ t,u=Value.float b t
 | .ref a,u=>u=Value.ref a
 | .ty n,u=>u=Value.type n
noncomputable abbrev Vals:List V->List Value->Prop:=Paired RelV
theorem Vals.length {xs:List V} {us:List Value} (r:Vals xs us):xs.length=us.length:=Paired.length r
theorem Vals.get:∀ {xs:List V} {us:List Value} {i:Nat} {x:V},Vals xs us->xs[i]? = some x -> ∃ u,us[i]? = some u/\RelV x u
 | _,_,_,_,.nil,e=>by simp at e
 | _,_,0,_,.cons r _,e=>by simp at e; subst e; exact ⟨_,rfl,r⟩
 | _,_,i+1,x,.cons _ t,e=>by
  obtain ⟨u,h1,h2⟩:=Vals.get (i:=i) (x:=x) t (by simpa using e)
  exact ⟨u,by simpa using h1,h2⟩
theorem Vals.set {x:V} {u:Value} (r:RelV x u):∀ {xs:List V} {us:List Value} (i:Nat),Vals xs us->Vals (xs.set i x) (us.set i u)
 | _,_,_,.nil=>.nil
 | _,_,0,.cons _ t=>.cons r t
 | _,_,i+1,.cons q t=>.cons q (Vals.set r i t)
theorem Vals.append:∀ {xs ys:List V} {us ws:List Value},Vals xs us->Vals ys ws->Vals (xs++ys) (us++ws)
 | _,_,_,_,.nil,s=>s
 | _,_,_,_,.cons r t,s=>.cons r (Vals.append t s)
theorem Vals.take:∀ {xs:List V} {us:List Value} (n:Nat),Vals xs us->Vals (xs.take n) (us.take n)
 | _,_,0,_=>.nil
 | _,_,_+1,.nil=>.nil
 | _,_,n+1,.cons r t=>.cons r (Vals.take n t)
theorem Vals.drop:∀ {xs:List V} {us:List Value} (n:Nat),Vals xs us->Vals (xs.drop n) (us.drop n)
 | _,_,0,r=>r
 | _,_,_+1,.nil=>.nil
 | _,_,n+1,.cons _ t=>Vals.drop n t
noncomputable def qT:Option V->Option Value->Prop
 | some v,some u=>RelV v u
 | none,none=>True
 | _,_=>False
noncomputable def KV {κ:Type}:List (κ×V)->List (κ×Value)->Prop:=Paired fun (p:κ×V) (q:κ×Value)=>p.1=q.1/\RelV p.2 q.2
noncomputable def kV:Key->V
 | .inl i=>.int i
 | .inr x=>.str x
inductive HO where
 | lst (xs:List V)
 | tup (xs:List V)
 | dK (kvs:List (Key×V)) | dT (kvs:List (List Key×V))
 | dX (o:Obj) (kvs:List (KX×V×V))
 | set (S:Int->Bool) (n:Nat)
 | ins (C dx:Addr) (fs:List (Str×V))
 | own (x:Addr)
 | xd (fs:List (Str×V))
 | met (f x:Addr)
 | rng (lo hi:Int)
 | IH (o:Obj) (u:HO)
 | Z9 (ps:Array Value)
 | ext (φ:Heap->Prop)
noncomputable abbrev Hp:=Addr->Option HO
noncomputable def upd (H:Hp) (a:Addr) (o:HO):Hp:=fun b=>if b=a then some o else H b
theorem bJ {H:Hp} {a:Addr} {o:HO}:upd H a o a=some o:=by unfold upd; rw [if_pos rfl]
theorem cC {H:Hp} {a b:Addr} {o:HO} (h:b≠a):upd H a o b=H b:=by unfold upd; rw [if_neg h]
theorem YR {H:Hp} {a b:Addr} {o u:HO} (h:H a=some o) (h':H b=some u) (d:o≠u):a≠b:=by
 intro e; subst e; rw [h] at h'; exact d (Option.some.inj h')
theorem cH {H:Hp} {a b:Addr} {o:HO} (h:H a=some o) (h':H b=none):a≠b:=by
 intro e; subst e; rw [h] at h'; cases h'
noncomputable def D3 (H:Hp):Sum Key (List Key)->V->Prop
 | .inl k,v=>v=kV k
 | .inr ks,v=>∃ b,v=.ref b/\H b=some (.tup (ks.map kV))
noncomputable def nV (H:Hp) (ks:N1) (a:Addr):Prop:=∃ vs,H a=some (.tup vs)/\Paired (D3 H) ks vs
noncomputable def D4 (P:Program) (w:World) (H:Hp) (o:Obj) (kvs:List (KX×V×V)):Prop:=o.ExactDict /\ ∃ es ep,o.data=.dict es ep /\
 ((∃ vs:List (Key×Value),Paired (fun (p:KX×V×V) (q:Key×Value)=>p.1=.inl q.1/\p.2.1=kV q.1/\RelV p.2.2 q.2) kvs vs/\KeysOf (bM P w) es/\Pairs (bM P w) es.toList vs/\(vs.map (·.1)).Nodup) \/
  ∃ xs:List (N1×Addr×Value),Paired (fun (p:KX×V×V) (q:N1×Addr×Value)=>p.1=.inr q.1/\p.2.1=.ref q.2.1/\nV H q.1 q.2.1/\RelV p.2.2 q.2.2) kvs xs/\es.toList=xs.map (entryOfKey (mI P w))/\(xs.map (·.1)).Nodup)
theorem Paired.aAA {α β:Type} {F G:α->β->Prop}:∀ {l₁:List α} {l₂:List β},Paired F l₁ l₂->(∀ a b,F a b->G a b)->Paired G l₁ l₂
 | _,_,.nil,_=>.nil
 | _,_,.cons r t,f=>.cons (f _ _ r) (Paired.aAA t f)
theorem nV.stay {H H':Hp} {ks:N1} {a:Addr} (h:nV H ks a) (ht:∀ b xs,H b=some (.tup xs)->H' b=some (.tup xs)):nV H' ks a:=by
 obtain ⟨vs,e,r⟩:=h
 refine ⟨vs,ht _ _ e,Paired.aAA r fun k v q=>?_⟩
 cases k with
 | inl k=>exact q
 | inr k=>obtain ⟨b,e,q⟩:=q; exact ⟨b,e,ht _ _ q⟩
theorem D4.stay {P:Program} {w:World} {H H':Hp} {o:Obj} {kvs:List (KX×V×V)} (h:D4 P w H o kvs) (ht:∀ b xs,H b=some (.tup xs)->H' b=some (.tup xs)):D4 P w H' o kvs:=by
 obtain ⟨x,es,ep,e,h⟩:=h
 refine ⟨x,es,ep,e,?_⟩
 rcases h with h | ⟨xs,r,h1,h2⟩
 ·exact .inl h
 ·exact .inr ⟨xs,Paired.aAA r fun p q z=>⟨z.1,z.2.1,z.2.2.1.stay ht,z.2.2.2⟩,h1,h2⟩
section
variable (P:Program) (w:World)
noncomputable def e9 (H:Hp) (h:Heap) (a:Addr):HO->Prop
 | .lst xs=>xs.length<=sizeLine /\ ∃ (its:List Value) (n:Nat),Vals xs its/\h.get? a=some { cls:=.type "list",data:=.seq its.toArray n }
 | .tup xs=>xs.length<=sizeLine /\ ∃ its:List Value,Vals xs its/\IsTup h a its.toArray
 | .dK kvs=>kvs.length<=sizeLine/\(a == sysModules)=false /\ ∃ vs,KV kvs vs/\h.DictOf (bM P w) a vs
 | .dT kvs=>kvs.length<=sizeLine/\(a == sysModules)=false /\ ∃ xs:List (List Key×Addr×Value),
   Paired (fun (p:List Key×V) (q:List Key×Addr×Value)=>p.1=q.1/\H q.2.1=some (.tup (p.1.map kV))/\RelV p.2 q.2.2) kvs xs /\
   ∃ o es ep,h.get? a=some o/\o.ExactDict/\o.data=.dict es ep/\es.toList=xs.map (entryOfKey (tupleKind (bM P w)))/\(xs.map (·.1)).Nodup
 | .dX o kvs=>kvs.length<=sizeLine/\(a == sysModules)=false/\h.get? a=some o/\D4 P w H o kvs
 | .set S n=>h.SetOf (intKind P w) a S n
 | .ins C dx fs=>H dx=some (.own a)/\fs.length<=1000/\dx≠a/\h.get? a=some (PySem.W.instObj C dx) /\
   ∃ mA,h.Ns1 dx mA/\(∀ f,qT (fs.lookup f) (mA f))/\PySem.Within mA (fs.map (·.1))
 | .own _=>∃ o,h.get? a=some o
 | .xd fs=>∃ mA,h.Ns1 a mA /\ ∀ f,qT (fs.lookup f) (mA f)
 | .rng lo hi=>∃ t u v,h.get? a=some { cls:=.type "range",data:=.fields #[.int lo t,.int hi u,.int 1 v] }
 | .IH o u=>h.get? a=some o/\e9 H h a u
 | .Z9 ps=>h.get? a=some { cls:=.none,data:=.fields ps }
 | .met f x=>h.get? a=some (PySem.W.methodObj (.ref f) (.ref x))
 | .ext φ=>φ h/\(∃ o,h.get? a=some o) /\ ∀ h1 h2:Heap,φ h1->(∀ o,h1.get? a=some o->h2.get? a=some o)->φ h2
noncomputable def qA (H:Hp) (h:Heap):Prop:=∀ a o,H a=some o->e9 P w H h a o
end
section
variable {P:Program} {w:World} {H H':Hp} {h h':Heap} {a:Addr} {o:HO}
theorem e9.lt (x:e9 P w H h a o):a<h.objs.size:=by
 cases o with
 | lst xs=>obtain ⟨_,_,_,_,e⟩:=x; exact Heap.lt_size e
 | tup xs=>obtain ⟨_,_,_,p⟩:=x; exact p.lt
 | dK kvs=>obtain ⟨_,_,_,_,o,_,_,e,_⟩:=x; exact Heap.lt_size e
 | dT kvs=>obtain ⟨_,_,_,_,o,_,_,e,_⟩:=x; exact Heap.lt_size e
 | dX ob kvs=>obtain ⟨_,_,e,_⟩:=x; exact Heap.lt_size e
 | set S n=>obtain ⟨o,_,_,_,e,_⟩:=x; exact Heap.lt_size e
 | ins C dx fs=>obtain ⟨_,_,_,e,_⟩:=x; exact Heap.lt_size e
 | own y=>obtain ⟨_,e⟩:=x; exact Heap.lt_size e
 | xd fs=>obtain ⟨_,⟨_,_,_,e,_⟩,_⟩:=x; exact Heap.lt_size e
 | rng lo hi=>obtain ⟨_,_,_,e⟩:=x; exact Heap.lt_size e
 | IH ob u=>obtain ⟨e,_⟩:=x; exact Heap.lt_size e
 | Z9 ps=>exact Heap.lt_size (show h.get? a=some _ from x)
 | met f y=>exact Heap.lt_size (show h.get? a=some _ from x)
 | ext φ=>obtain ⟨_,⟨_,e⟩,_⟩:=x; exact Heap.lt_size e
theorem Paired.aAB {α β:Type} {F G:α->β->Prop}:∀ {l₁:List α} {l₂:List β},Paired F l₁ l₂->(∀ a b,F a b->G a b)->Paired G l₁ l₂
 | _,_,.nil,_=>.nil
 | _,_,.cons r t,f=>.cons (f _ _ r) (Paired.aAB t f)
theorem e9.stay (x:e9 P w H h a o) (k:∀ b u,(b=a\/H b=some (.own a))->h.get? b=some u->h'.get? b=some u)
  (ho:∀ b,H b=some (.own a)->H' b=some (.own a)) (ht:∀ b xs,H b=some (.tup xs)->H' b=some (.tup xs)):e9 P w H' h' a o:=by
 induction o with
 | lst xs=>obtain ⟨z,its,n,r,e⟩:=x; exact ⟨z,its,n,r,k _ _ (.inl rfl) e⟩
 | tup xs=>obtain ⟨z,its,r,ob,e,c⟩:=x; exact ⟨z,its,r,ob,k _ _ (.inl rfl) e,c⟩
 | dK kvs=>obtain ⟨z,y,vs,r,ob,es,ep,e,c⟩:=x; exact ⟨z,y,vs,r,ob,es,ep,k _ _ (.inl rfl) e,c⟩
 | dT kvs =>
  obtain ⟨z,y,xs,r,ob,es,ep,e,c⟩:=x
  exact ⟨z,y,xs,Paired.aAB r fun p q z=>⟨z.1,ht _ _ z.2.1,z.2.2⟩,ob,es,ep,k _ _ (.inl rfl) e,c⟩
 | dX ob kvs=>obtain ⟨z,y,e,c⟩:=x; exact ⟨z,y,k _ _ (.inl rfl) e,c.stay ht⟩
 | set S n=>obtain ⟨ob,es,ep,t,e,c⟩:=x; exact ⟨ob,es,ep,t,k _ _ (.inl rfl) e,c⟩
 | ins C dx fs =>
  obtain ⟨d,z,ne,e,mA,⟨od,es,ep,e2,c⟩,r⟩:=x
  exact ⟨ho _ d,z,ne,k _ _ (.inl rfl) e,mA,⟨od,es,ep,k _ _ (.inr d) e2,c⟩,r⟩
 | own y=>obtain ⟨ob,e⟩:=x; exact ⟨ob,k _ _ (.inl rfl) e⟩
 | xd fs=>obtain ⟨mA,⟨od,es,ep,e,c⟩,r⟩:=x; exact ⟨mA,⟨od,es,ep,k _ _ (.inl rfl) e,c⟩,r⟩
 | rng lo hi=>obtain ⟨t,u,v,e⟩:=x; exact ⟨t,u,v,k _ _ (.inl rfl) e⟩
 | IH ob u ih=>obtain ⟨e,q⟩:=x; exact ⟨k _ _ (.inl rfl) e,ih q⟩
 | Z9 ps =>
  have e:h.get? a=some { cls:=.none,data:=.fields ps }:=x
  show h'.get? a=some { cls:=.none,data:=.fields ps }
  exact k a _ (.inl rfl) e
 | met f y =>
  have e:h.get? a=some (PySem.W.methodObj (.ref f) (.ref y)):=x
  show h'.get? a=some (PySem.W.methodObj (.ref f) (.ref y))
  exact k a _ (.inl rfl) e
 | ext φ=>obtain ⟨p,⟨o,e⟩,st⟩:=x; exact ⟨st _ _ p fun o q=>k _ _ (.inl rfl) q,⟨o,k _ _ (.inl rfl) e⟩,st⟩
theorem qA.lt (x:qA P w H h) (e:H a=some o):a<h.objs.size:=(x a o e).lt
theorem qA.fresh (x:qA P w H h) (e:h.objs.size<=a):H a=none:=by
 cases q:H a with
 | none=>rfl
 | some u=>exact absurd (Nat.lt_of_lt_of_le (x.lt q) e) (Nat.lt_irrefl _)
theorem qA.kept (x:qA P w H h) (k:∀ b u,h.get? b=some u->h'.get? b=some u):qA P w H h':=fun a o e =>
 (x a o e).stay (fun b u _ q=>k b u q) (fun _ q=>q) fun _ _ q=>q
theorem qA.laid (x:qA P w H h) (k:∀ b u,h.get? b=some u->h'.get? b=some u) (hp:h.objs.size<=a) (new:e9 P w (upd H a o) h' a o):qA P w (upd H a o) h':=fun b u e=>by
 have hn:=x.fresh hp
 by_cases hb:b=a
 ·subst hb; rw [bJ] at e; cases e; exact new
 ·rw [cC hb] at e
  exact (x b u e).stay (fun c v _ q=>k c v q) (fun c q=>by rw [cC (cH q hn)]; exact q) fun c xs q=>by rw [cC (cH q hn)]; exact q
end
noncomputable def Rd (H:Hp) (a:Addr) (u:HO):Prop:=H a=some u \/ ∃ o,H a=some (.IH o u)
theorem Rd.ok {P:Program} {w:World} {H:Hp} {h:Heap} {a:Addr} {u:HO} (r:Rd H a u) (x:qA P w H h):e9 P w H h a u:=by
 rcases r with r | ⟨o,r⟩
 ·exact x a u r
 ·obtain ⟨_,q⟩:=x a _ r
  exact q
noncomputable def Mut:Option HO->Prop
 | some (.lst _)=>True
 | some (.dK _)=>True
 | some (.dT _)=>True
 | some (.dX _ _)=>True
 | some (.set _ _)=>True
 | some (.ins _ _ _)=>True
 | some (.ext _)=>True
 | _=>False
section
variable {P:Program} {w:World} {H:Hp} {h h':Heap} {x e:Addr} {o':HO}
theorem qA.write (ok:qA P w H h) (mu:Mut (H x)) (he:e=x\/H e=some (.own x)) (k:∀ b u,b≠e->h.get? b=some u->h'.get? b=some u) (heo:∃ u,h'.get? e=some u)
  (new:e9 P w (upd H x o') h' x o'):qA P w (upd H x o') h':=fun b u q=>by
 have aCR:∀ c y,H c=some (.own y)->c≠x:=fun c y r z=>by subst z; rw [r] at mu; exact mu
 have aGe:∀ c xs,H c=some (.tup xs)->c≠x:=fun c xs r z=>by subst z; rw [r] at mu; exact mu
 by_cases hb:b=x
 ·subst hb; rw [bJ] at q; cases q; exact new
 ·rw [cC hb] at q
  by_cases hbe:b=e
  ·have q':H b=some (.own x):=by
    rcases he with z | z
    ·exact absurd (hbe.trans z) hb
    ·rw [hbe]; exact z
   rw [q] at q'; cases q'
   obtain ⟨v,hv⟩:=heo
   exact ⟨v,by rw [hbe]; exact hv⟩
  ·refine (ok b u q).stay (fun c v hc r=>k c v ?_ r) (fun c r=>by rw [cC (aCR c b r)]; exact r) fun c xs r=>by rw [cC (aGe c xs r)]; exact r
   rcases hc with rfl | hc
   ·exact hbe
   ·rintro rfl
    rcases he with z | z
    ·exact aCR c b hc z
    ·rw [hc] at z; cases z; exact hb rfl
end
structure Un (fs ex:List Addr) (H H':Hp) (h h':Heap):Prop where
 keep:∀ b o,h.get? b=some o->H b=none->b∉fs->b∉ex->h'.get? b=some o
 slot:∀ b o,h.get? b=some o->H b=none->b∈fs->b∉ex -> ∃ sl,h'.get? b=some { o with slots:=sl }
 free:∀ b o,h.get? b=some o->H b=none->b∉ex->H' b=none
 there:∀ b o,h.get? b=some o->b∉ex -> ∃ o',h'.get? b=some o'
 tups:∀ b xs,H b=some (.tup xs)->H' b=some (.tup xs)
 tZ:∀ b o u,H b=some (.IH o u)->H' b=some (.IH o u)
 u3:∀ b ps,H b=some (.Z9 ps) -> ∃ more,H' b=some (.Z9 (ps++more))
section
variable {fs fs' ex ex':List Addr} {H H1 H2:Hp} {h h1 h2 h':Heap} {a x e:Addr} {o:HO}
theorem Un.any (u:Un fs ex H H1 h h1) {b:Addr} {ob:Obj} (q:h.get? b=some ob) (n:H b=none) (hx:b∉ex):∃ sl,h1.get? b=some { ob with slots:=sl }:=by
 by_cases hb:b∈fs
 ·exact u.slot b ob q n hb hx
 ·exact ⟨ob.slots,u.keep b ob q n hb hx⟩
theorem Un.trans (a:Un fs ex H H1 h h1) (b:Un fs ex H1 H2 h1 h2):Un fs ex H H2 h h2 where
 keep:=fun c ob q n hc hx=>b.keep c ob (a.keep c ob q n hc hx) (a.free c ob q n hx) hc hx
 slot:=fun c ob q n hc hx=>by
  obtain ⟨sl,e1⟩:=a.slot c ob q n hc hx
  obtain ⟨sl',e2⟩:=b.slot c _ e1 (a.free c ob q n hx) hc hx
  exact ⟨sl',e2⟩
 free:=fun c ob q n hx=>by
  obtain ⟨o',e1⟩:=a.there c ob q hx
  exact b.free c o' e1 (a.free c ob q n hx) hx
 there:=fun c ob q hx=>by
  obtain ⟨o',e1⟩:=a.there c ob q hx
  exact b.there c o' e1 hx
 tups:=fun c xs q=>b.tups c xs (a.tups c xs q)
 tZ:=fun c ob xs q=>b.tZ c ob xs (a.tZ c ob xs q)
 u3:=fun c ps q=>by
  obtain ⟨m1,e1⟩:=a.u3 c ps q
  obtain ⟨m2,e2⟩:=b.u3 c _ e1
  exact ⟨m1++m2,by rw [e2,Array.append_assoc]⟩
theorem Un.kept (k:∀ b u,h.get? b=some u->h'.get? b=some u):Un fs ex H H h h' :=
 ⟨fun b ob q _ _ _=>k b ob q,fun b ob q _ _ _=>⟨ob.slots,k b ob q⟩,fun _ _ _ n _=>n,fun b ob q _=>⟨ob,k b ob q⟩,fun _ _ q=>q,fun _ _ _ q=>q,fun _ ps q=>⟨#[],by rw [q]; simp⟩⟩
theorem Un.refl:Un fs ex H H h h:=Un.kept fun _ _ q=>q
theorem Un.laid (k:∀ b u,h.get? b=some u->h'.get? b=some u) (hp:h.objs.size<=a) (hn:H a=none):Un fs ex H (upd H a o) h h' where
 keep:=fun b u q _ _ _=>k b u q
 slot:=fun b u q _ _ _=>⟨u.slots,k b u q⟩
 free:=fun b u q n _=>by rw [cC (Nat.ne_of_lt (Nat.lt_of_lt_of_le (Heap.lt_size q) hp))]; exact n
 there:=fun b u q _=>⟨u,k b u q⟩
 tups:=fun b xs q=>by rw [cC (cH q hn)]; exact q
 tZ:=fun b u xs q=>by rw [cC (cH q hn)]; exact q
 u3:=fun b ps q=>⟨#[],by rw [cC (cH q hn),q]; simp⟩
theorem Un.write (mu:Mut (H x)) (he:e=x\/H e=some (.own x)) (k:∀ b u,b≠e->h.get? b=some u->h'.get? b=some u) (heo:∃ u,h'.get? e=some u):Un fs ex H (upd H x o) h h':=by
 have hx:∀ b,H b=none->b≠x:=fun b n z=>by subst z; rw [n] at mu; exact mu
 have hb:∀ b,H b=none->b≠e:=fun b n z=>by
  subst z
  rcases he with r | r
  ·exact hx b n r
  ·rw [n] at r; cases r
 have hm:∀ b u,H b=some u->¬ Mut (some u)->b≠x:=fun b u q nm z=>by subst z; rw [q] at mu; exact nm mu
 refine ⟨fun b u q n _ _=>k b u (hb b n) q,fun b u q n _ _=>⟨u.slots,k b u (hb b n) q⟩,fun b u q n _=>by rw [cC (hx b n)]; exact n,fun b u q _=>?_,
  fun b xs q=>by rw [cC (hm b _ q fun z=>z)]; exact q,fun b u xs q=>by rw [cC (hm b _ q fun z=>z)]; exact q,fun b ps q=>⟨#[],by rw [cC (hm b _ q fun z=>z),q]; simp⟩⟩
 by_cases hbe:b=e
 ·subst hbe; exact heo
 ·exact ⟨u,k b u hbe q⟩
end
noncomputable def trk (h:Heap) (H:Hp):List Addr:=(List.range h.objs.size).filter fun a=>(H a).isSome
noncomputable def D5 (h:Heap) (H:Hp):Heap:=PySem.W.hideAll h (trk h H)
theorem NV (h:Heap) (H:Hp):(D5 h H).objs.size=h.objs.size:=PySem.W.hideAll_size _ _
theorem RV {h:Heap} {H:Hp} {b:Addr} {o:Obj} (e:h.get? b=some o) (n:H b=none):(D5 h H).get? b=some o :=
 PySem.W.hideAll_get _ e fun hm=>by
  have q:(H b).isSome=true:=(List.mem_filter.mp hm).2
  rw [n] at q; simp at q
theorem V5 {h:Heap} {H:Hp} {b:Addr} {o:Obj} (e:(D5 h H).get? b=some o):h.get? b=some o/\H b=none:=by
 have e':h.get? b=some o:=PySem.W.of_hideAll (trk h H) e
 refine ⟨e',?_⟩
 cases q:H b with
 | none=>rfl
 | some x =>
  have hm:b∈trk h H:=List.mem_filter.mpr ⟨List.mem_range.mpr (Heap.lt_size e'),by simp [q]⟩
  have z:(D5 h H).get? b=none:=PySem.W.hideAll_none (trk h H) hm
  rw [z] at e; cases e
end L2
namespace L2
open PySem PySem.Spec PyProof.Rows
structure Mod (K:PySem.W.Frag) (mg:Str->Option Value) (base:Heap):Prop where
 kin:K.In base
 glob:base.Ns mainGlobals mg
 blt:∃ mb,base.Ns builtinsNs mb /\ ∀ x:Str,x ≠ "__name__" -> mb x=bootBuiltins x
 nolimit:base.NoLimit
structure Cx where
 prog:Program
 w:World
 K:PySem.W.Frag
 mg:Str->Option Value
 base:Heap
 A:Around
 N:List Str
 s₀:Shared
 H₀:Hp
 env:Env
 outer:List Env
 stack:List Env
 ex:List Addr
 fn:Str->Bool
 calm:Bool
 pn:List (Addr×Obj)
 xe:Value->Shared->Prop
noncomputable def frs (l:List Env):List Addr:=l.filterMap (·.frame)
noncomputable abbrev Cx.fs (X:Cx):List Addr:=frs X.outer
noncomputable def GU (sc:Scope) (x:Str):Prop:=sc.names.lookup x=some .local\/sc.names.lookup x=some .cell\/sc.names.lookup x=some .free
noncomputable def Loc (sc:Scope) (x:Str):Prop:=sc.names.lookup x=some .local\/sc.names.lookup x=some .cell
noncomputable def Look (env:Env) (h:Heap) (m:Str->Option Value) (x:Str) (u:Value):Prop :=
 (env.kindOf x=some .local/\m x=some u)\/((env.kindOf x=some .cell\/env.kindOf x=some .free) /\ ∃ c,env.cells.lookup x=some c/\h.IsCell c (some u))
structure Cx.Ok (X:Cx):Prop where
 mod:Mod X.K X.mg X.base
 kind:X.env.scope.kind=.function
 glob:X.env.globals=mainGlobals
 blt:X.env.builtins=builtinsNs
 above:X.s₀.heap.objs.size<=X.env.locals
 inj:∀ x y c,X.env.cells.lookup x=some c->X.env.cells.lookup y=some c->x=y
 has:∀ x,(X.env.kindOf x=some .cell\/X.env.kindOf x=some .free) -> ∃ c,X.env.cells.lookup x=some c
 cab:∀ x c,X.fn x=true->X.env.cells.lookup x=some c->X.s₀.heap.objs.size<=c
 hd:X.calm=true->X.A.handled=none
 frames:X.A.frames=some X.stack
 stk:X.stack=X.outer\/(X.stack=X.env::X.outer/\X.env.frame=some X.env.locals)
 exf:∀ b∈X.ex,b≠X.env.locals /\ ∀ x c,X.env.cells.lookup x=some c->c≠b
 bs:∀ b o,X.base.get? b=some o->X.s₀.heap.get? b=some o/\X.H₀ b=none
 V6:X.base.objs.size<=X.s₀.heap.objs.size
 RW:∀ b o,X.base.get? b=some o->b∉X.ex
 V7:∀ b∈X.ex,b∉X.fs
 yJ:X.s₀.heap.FunFrames X.base X.outer
 frf:∀ b∈X.fs,X.H₀ b=none
structure Inv (X:Cx) (pins:List (Addr×Obj)) (σ:List (Option V)) (H:Hp) (s:Shared):Prop where
 ok:X.Ok
 os:s.os=X.s₀.os
 bare:AllBare s.gens
 base:Un X.fs X.ex X.H₀ H X.s₀.heap s.heap
 loc:∃ m,s.heap.Ns X.env.locals m /\ ∀ (i:Nat) (x:Str) (v:V),X.N[i]? = some x->σ[i]? = some (some v)->GU X.env.scope x -> ∃ u,RelV v u/\Look X.env s.heap m x u
 cell:∀ x c,X.env.cells.lookup x=some c -> ∃ v,s.heap.IsCell c v
 free:H X.env.locals=none
 nW:∀ x c,X.env.cells.lookup x=some c->H c=none
 pin:∀ p∈X.pn++pins,s.heap.get? p.1=some p.2/\H p.1=none/\p.1≠X.env.locals/\p.1∉X.fs /\ ∀ v,p.2.data≠.cell v
 hok:qA X.prog X.w H s.heap
 len:σ.length=X.N.length
section
variable {X:Cx} {pins:List (Addr×Obj)} {σ:List (Option V)} {H H':Hp} {s:Shared} {h':Heap}
theorem Cx.Ok.aGg (ok:X.Ok) {b:Addr} {o:Obj} (e:X.base.get? b=some o):b∉X.fs:=fun hb=>by
 have:=(ok.yJ.mem hb).1
 rw [e] at this; cases this
theorem Inv.bs (I:Inv X pins σ H s):∀ b o,X.base.get? b=some o->s.heap.get? b=some o/\H b=none:=fun b o e =>
 ⟨I.base.keep b o (I.ok.bs b o e).1 (I.ok.bs b o e).2 (I.ok.aGg e) (I.ok.RW b o e),I.base.free b o (I.ok.bs b o e).1 (I.ok.bs b o e).2 (I.ok.RW b o e)⟩
theorem Inv.bk (I:Inv X pins σ H s):∀ b o,X.base.get? b=some o->s.heap.get? b=some o:=fun b o e=>(I.bs b o e).1
theorem Inv.mod (I:Inv X pins σ H s):Mod X.K X.mg X.base:=I.ok.mod
theorem Inv.D6 (I:Inv X pins σ H s):X.K.In s.heap:=I.ok.mod.kin.keeps I.bk
theorem Inv.fr (I:Inv X pins σ H s):∃ m,Fr X.base X.env.locals s.heap m :=
 let ⟨m,hn,_⟩:=I.loc
 ⟨m,hn,I.bk,Nat.le_trans I.ok.V6 I.ok.above⟩
theorem Inv.lt (I:Inv X pins σ H s):X.env.locals<s.heap.objs.size:=let ⟨_,hn,_⟩:=I.loc; hn.lt
theorem Inv.sz (I:Inv X pins σ H s):X.s₀.heap.objs.size<=s.heap.objs.size:=Nat.le_trans I.ok.above (Nat.le_of_lt I.lt)
theorem Inv.aGh (I:Inv X pins σ H s) {a:Addr} (h:s.heap.objs.size<=a):a∉X.fs:=fun hb=>by
 obtain ⟨_,o,ho,_⟩:=I.ok.yJ.mem hb
 exact absurd (Nat.lt_of_lt_of_le (Heap.lt_size ho) (Nat.le_trans I.sz h)) (Nat.lt_irrefl _)
theorem Inv.cne (I:Inv X pins σ H s):∀ x c,X.env.cells.lookup x=some c->c≠X.env.locals:=fun x c e z=>by
 obtain ⟨v,o,ho,hd⟩:=I.cell x c e
 obtain ⟨m,⟨o',es,ep,ho',hd',_⟩,_⟩:=I.loc
 rw [z,ho'] at ho; cases ho; rw [hd'] at hd; cases hd
theorem Inv.yJ (I:Inv X pins σ H s):s.heap.FunFrames X.base X.outer:=by
 have all:∀ (l:List Env),(∀ b∈frs l,b∈X.fs)->X.s₀.heap.FunFrames X.base l->s.heap.FunFrames X.base l:=by
  intro l
  induction l with
  | nil=>intro _ _; trivial
  | cons env r ih =>
   intro hs hl
   obtain ⟨hk,⟨L,o,hf,hn,ho,hd⟩,hr⟩:=hl
   have hL:L∈X.fs:=hs L (by unfold frs; rw [List.filterMap_cons,hf]; exact List.mem_cons_self)
   obtain ⟨sl,e⟩:=I.base.slot L o ho (I.ok.frf L hL) hL fun z=>I.ok.V7 L z hL
   exact ⟨hk,⟨L,_,hf,hn,e,hd⟩,ih (fun b hb=>hs b (by unfold frs; rw [List.filterMap_cons,hf]; exact List.mem_cons_of_mem _ hb)) hr⟩
 exact all X.outer (fun _ hb=>hb) I.ok.yJ
theorem Inv.stack (I:Inv X pins σ H s):s.heap.FunFrames X.base X.stack:=by
 rcases I.ok.stk with e | ⟨e,hf⟩
 ·rw [e]; exact I.yJ
 ·rw [e]
  obtain ⟨m,hn,_⟩:=I.loc
  refine .cons (by rw [I.ok.kind]; decide) hf hn ?_ I.yJ
  exact Heap.get?_none_of_le (Nat.le_trans I.ok.V6 I.ok.above)
theorem Inv.yK (I:Inv X pins σ H s):∀ b∈frs X.stack,b∈X.env.locals::X.fs:=fun b hb=>by
 rcases I.ok.stk with e | ⟨e,hf⟩
 ·rw [e] at hb; exact List.mem_cons_of_mem _ hb
 ·rw [e] at hb
  unfold frs at hb
  rw [List.filterMap_cons,hf] at hb
  exact hb
theorem Inv.MF (I:Inv X pins σ H s):∀ b∈frs X.stack,H b=none:=fun b hb=>by
 rcases List.mem_cons.mp (I.yK b hb) with e | hb
 ·rw [e]; exact I.free
 ·obtain ⟨_,o,ho,_⟩:=I.ok.yJ.mem hb
  exact I.base.free b o ho (I.ok.frf b hb) fun z=>I.ok.V7 b z hb
theorem Inv.step {g':Array GenState} {t':Nat} {d':Drawn} {ch:List Addr} (I:Inv X pins σ H s)
  (hch:∀ b∈ch,(b∈X.ex\/X.s₀.heap.objs.size<=b)/\b≠X.env.locals/\(∀ x c,X.env.cells.lookup x=some c->c≠b) /\ ∀ p∈X.pn++pins,p.1≠b)
  (keep:∀ b o,b≠X.env.locals->b∉X.fs->b∉ch->s.heap.get? b=some o->H b=none->h'.get? b=some o)
  (slot:∀ b o,b≠X.env.locals->b∈X.fs->b∉ch->s.heap.get? b=some o->H b=none -> ∃ sl,h'.get? b=some { o with slots:=sl }) (free:∀ b o,b∉ch->s.heap.get? b=some o->H b=none->H' b=none)
  (there:∀ b o,b∉ch->s.heap.get? b=some o -> ∃ o',h'.get? b=some o')
  (tups:∀ b xs,H b=some (.tup xs)->H' b=some (.tup xs)) (tZ:∀ b o u,H b=some (.IH o u)->H' b=some (.IH o u)) (u3:∀ b ps,H b=some (.Z9 ps) -> ∃ more,H' b=some (.Z9 (ps++more)))
  (ns:∀ m,s.heap.Ns X.env.locals m->h'.Ns X.env.locals m) (hok:qA X.prog X.w H' h') (hg:AllBare g') :
  Inv X pins σ H' { s with heap:=h',gens:=g',drawn:=d',toks:=t' }:=by
 have neL:∀ b o,X.s₀.heap.get? b=some o->b≠X.env.locals:=fun b o e=>Nat.ne_of_lt (Nat.lt_of_lt_of_le (Heap.lt_size e) I.ok.above)
 have neC:∀ b o,X.s₀.heap.get? b=some o->b∉X.ex->b∉ch:=fun b o e hx hb=>by
  rcases (hch b hb).1 with z | z
  ·exact hx z
  ·exact absurd (Nat.lt_of_lt_of_le (Heap.lt_size e) z) (Nat.lt_irrefl _)
 have cellK:∀ x c,X.env.cells.lookup x=some c -> ∀ v,s.heap.IsCell c v->h'.IsCell c v:=fun x c e v hq3=>by
  obtain ⟨o,ho,hd⟩:=hq3
  have nch:c∉ch:=fun z=>(hch c z).2.2.1 x c e rfl
  by_cases hc:c∈X.fs
  ·obtain ⟨sl,q⟩:=slot c o (I.cne x c e) hc nch ho (I.nW x c e)
   exact ⟨_,q,hd⟩
  ·exact ⟨o,keep c o (I.cne x c e) hc nch ho (I.nW x c e),hd⟩
 refine ⟨I.ok,I.os,hg,⟨fun b o e n hb hx=>?_,fun b o e n hb hx=>?_,fun b o e n hx=>?_,fun b o e hx=>?_,fun b xs e=>tups b xs (I.base.tups b xs e),fun b o xs e=>tZ b o xs (I.base.tZ b o xs e),fun b ps e=>?_⟩,?_,fun x c e=>?_,?_,fun x c e=>?_,fun p hp=>?_,hok,I.len⟩
 ·exact keep b o (neL b o e) hb (neC b o e hx) (I.base.keep b o e n hb hx) (I.base.free b o e n hx)
 ·obtain ⟨sl,e1⟩:=I.base.slot b o e n hb hx
  obtain ⟨sl',e2⟩:=slot b _ (neL b o e) hb (neC b o e hx) e1 (I.base.free b o e n hx)
  exact ⟨sl',e2⟩
 ·obtain ⟨o',e1⟩:=I.base.there b o e hx
  exact free b o' (neC b o e hx) e1 (I.base.free b o e n hx)
 ·obtain ⟨o',e1⟩:=I.base.there b o e hx
  exact there b o' (neC b o e hx) e1
 ·obtain ⟨m1,e1⟩:=I.base.u3 b ps e
  obtain ⟨m2,e2⟩:=u3 b _ e1
  exact ⟨m1++m2,by rw [e2,Array.append_assoc]⟩
 ·obtain ⟨m,hn,hl⟩:=I.loc
  refine ⟨m,ns m hn,fun i x v e1 e2 e3=>?_⟩
  obtain ⟨u,r,l⟩:=hl i x v e1 e2 e3
  refine ⟨u,r,?_⟩
  rcases l with l | ⟨k,c,e,z⟩
  ·exact .inl l
  ·exact .inr ⟨k,c,e,cellK x c e _ z⟩
 ·obtain ⟨v,z⟩:=I.cell x c e
  exact ⟨v,cellK x c e v z⟩
 ·obtain ⟨m,⟨o,_,_,ho,_⟩,_⟩:=I.loc
  exact free _ o (fun z=>(hch _ z).2.1 rfl) ho I.free
 ·obtain ⟨v,o,ho,hd⟩:=I.cell x c e
  exact free c o (fun z=>(hch c z).2.2.1 x c e rfl) ho (I.nW x c e)
 ·obtain ⟨e,n,ne,nf,d⟩:=I.pin p hp
  have nch:p.1∉ch:=fun z=>(hch p.1 z).2.2.2 p hp rfl
  exact ⟨keep p.1 p.2 ne nf nch e n,free p.1 p.2 nch e n,ne,nf,d⟩
theorem Inv.un {t':Nat} (I:Inv X pins σ H s) (u:Un X.fs [] H H' s.heap h') (hok:qA X.prog X.w H' h'):Inv X pins σ H' { s with heap:=h',toks:=t' }:=by
 obtain ⟨m,⟨o,es,ep,ho,r⟩,_⟩:=id I.loc
 obtain ⟨sl,hL⟩:=u.any ho I.free (by simp)
 exact I.step (g':=s.gens) (d':=s.drawn) (ch:=[]) (fun _ z=>nomatch z) (fun b o _ hb _ e n=>u.keep b o e n hb (by simp)) (fun b o _ hb _ e n=>u.slot b o e n hb (by simp)) (fun b o _ e n=>u.free b o e n (by simp)) (fun b o _ e=>u.there b o e (by simp)) u.tups u.tZ u.u3 (fun m' hm=>by
  obtain ⟨o',es',ep',ho',r'⟩:=hm
  rw [ho] at ho'; cases ho'
  exact ⟨_,es',ep',hL,r'⟩) hok I.bare
theorem Inv.call {g':Array GenState} {t':Nat} {d':Drawn} {ch:List Addr} (I:Inv X pins σ H s) (u:Un (frs X.stack) ch H H' s.heap h') (hok:qA X.prog X.w H' h') (hg:AllBare g')
  (hch:∀ b∈ch,(b∈X.ex\/X.s₀.heap.objs.size<=b)/\b≠X.env.locals/\(∀ x c,X.env.cells.lookup x=some c->c≠b) /\ ∀ p∈X.pn++pins,p.1≠b) :
  Inv X pins σ H' { s with heap:=h',gens:=g',drawn:=d',toks:=t' }:=by
 obtain ⟨m,⟨o,es,ep,ho,r⟩,_⟩:=id I.loc
 obtain ⟨sl,hL⟩:=u.any ho I.free fun z=>(hch _ z).2.1 rfl
 exact I.step (ch:=ch) hch (fun b o hL hb hc e n=>u.keep b o e n (fun z=>(List.mem_cons.mp (I.yK b z)).elim hL hb) hc) (fun b o _ _ hc e n=>u.any e n hc) (fun b o hc e n=>u.free b o e n hc) (fun b o hc e=>u.there b o e hc) u.tups u.tZ u.u3 (fun m' hm=>by
  obtain ⟨o',es',ep',ho',r'⟩:=hm
  rw [ho] at ho'; cases ho'
  exact ⟨_,es',ep',hL,r'⟩) hok hg
theorem Inv.turned {t':Nat} {it:Addr} (I:Inv X pins σ H s) (k:∀ b o,b≠it->s.heap.get? b=some o->h'.get? b=some o) (hn:H it=none) (hL:it≠X.env.locals)
  (h1:it∈X.ex\/X.s₀.heap.objs.size<=it) (h2:∀ x c,X.env.cells.lookup x=some c->c≠it) (h3:∀ p∈X.pn++pins,p.1≠it):Inv X pins σ H { s with heap:=h',toks:=t' }:=by
 have nit:∀ b u,H b=some u->b≠it:=fun b u e z=>by rw [z,hn] at e; cases e
 refine I.step (g':=s.gens) (d':=s.drawn) (ch:=[it]) (fun b hb=>?_) (fun b o _ _ hc e _=>k b o (fun z=>hc (by simp [z])) e) (fun b o _ _ hc e _=>⟨o.slots,k b o (fun z=>hc (by simp [z])) e⟩) (fun _ _ _ _ n=>n)
  (fun b o hc e=>⟨o,k b o (fun z=>hc (by simp [z])) e⟩) (fun _ _ e=>e) (fun _ _ _ e=>e) (fun b ps e=>⟨#[],by rw [e]; simp⟩) (fun m hm=>?_) (fun b u e=>?_) I.bare
 ·have e:b=it:=by simpa using hb
  subst e
  exact ⟨h1,hL,h2,h3⟩
 ·obtain ⟨o,es,ep,ho,r⟩:=hm
  exact ⟨o,es,ep,k _ o (Ne.symm hL) ho,r⟩
 ·refine (I.hok b u e).stay (fun c v hc q=>k c v ?_ q) (fun _ q=>q) fun _ _ q=>q
  rcases hc with z | z
  ·rw [z]; exact nit b u e
  ·exact nit c _ z
theorem Inv.tok (I:Inv X pins σ H s) (t:Nat):Inv X pins σ H { s with toks:=t }:=I.un (h':=s.heap) (t':=t) Un.refl I.hok
theorem Inv.kept {t':Nat} (I:Inv X pins σ H s) (k:∀ b u,s.heap.get? b=some u->h'.get? b=some u):Inv X pins σ H { s with heap:=h',toks:=t' }:=I.un (Un.kept k) (I.hok.kept k)
theorem Inv.laid {a:Addr} {o:HO} {t':Nat} (I:Inv X pins σ H s) (k:∀ b u,s.heap.get? b=some u->h'.get? b=some u) (hp:s.heap.objs.size<=a) (new:e9 X.prog X.w (upd H a o) h' a o) :
  Inv X pins σ (upd H a o) { s with heap:=h',toks:=t' }:=I.un (Un.laid k hp (I.hok.fresh hp)) (I.hok.laid k hp new)
theorem Inv.write {x e:Addr} {o:HO} {t':Nat} (I:Inv X pins σ H s) (mu:Mut (H x)) (he:e=x\/H e=some (.own x)) (k:∀ b u,b≠e->s.heap.get? b=some u->h'.get? b=some u) (heo:∃ u,h'.get? e=some u)
  (new:e9 X.prog X.w (upd H x o) h' x o):Inv X pins σ (upd H x o) { s with heap:=h',toks:=t' }:=I.un (Un.write mu he k heo) (I.hok.write mu he k heo new)
theorem Inv.weak {σ':List (Option V)} (I:Inv X pins σ H s) (hl:σ'.length=σ.length) (w:∀ (i:Nat) v,σ'[i]? = some (some v)->σ[i]? = some (some v)):Inv X pins σ' H s :=
 ⟨I.ok,I.os,I.bare,I.base,let ⟨m,hn,hl'⟩:=I.loc; ⟨m,hn,fun i x v e1 e2 e3=>hl' i x v e1 (w i v e2) e3⟩,I.cell,I.free,I.nW,I.pin,I.hok,hl.trans I.len⟩
theorem Inv.MG {MH:List (Addr×Obj)} (I:Inv X pins σ H s) (h:∀ p∈MH,s.heap.get? p.1=some p.2/\H p.1=none/\p.1≠X.env.locals/\p.1∉X.fs /\ ∀ v,p.2.data≠.cell v):Inv X MH σ H s :=
 ⟨I.ok,I.os,I.bare,I.base,I.loc,I.cell,I.free,I.nW,fun p hp=>(List.mem_append.mp hp).elim (fun z=>I.pin p (List.mem_append_left _ z)) (h p),I.hok,I.len⟩
theorem GV {N:List Str} (hN:N.Nodup) {i j:Nat} {x:Str} (a:N[i]? = some x) (b:N[j]? = some x):i=j:=by
 obtain ⟨h1,e1⟩:=List.getElem?_eq_some_iff.mp a
 obtain ⟨h2,e2⟩:=List.getElem?_eq_some_iff.mp b
 exact (List.getElem_inj hN).mp (e1.trans e2.symm)
theorem BQ {M:Model} {A:Around} {E:Value->Shared->Prop} {i:Nat} {x:Str} {v:V} {u:Value} {Q:Unit->Shared->Prop} (I:Inv X pins σ H s) (hN:X.N.Nodup) (hi:X.N[i]? = some x) (hx:Loc X.env.scope x) (r:RelV v u)
  (h:∀ s',Inv X pins (σ.set i (some v)) H s'->(∃ a,Heap.SameBut a s.heap s'.heap/\(a=X.env.locals\/X.env.cells.lookup x=some a))->Q () s') (hf:X.fn x=true\/X.env.scope.names.lookup x=some .local:=by first | exact .inl rfl | exact .inr rfl | assumption):wpAny M A (storeName X.env x u) Q E s:=by
 obtain ⟨m,hn,hl⟩:=id I.loc
 have hcls:(X.env.scope.kind == .class||(X.env.scope.kind == .module&&X.env.locals != X.env.globals))=false:=by rw [I.ok.kind]; rfl
 have hiσ:i<σ.length:=by rw [I.len]; exact (List.getElem?_eq_some_iff.mp hi).1
 have cne:=I.cne
 have tracked:∀ {a:Addr} {h':Heap},(∃ o,s.heap.get? a=some o/\H a=none)->Heap.SameBut a s.heap h'->qA X.prog X.w H h':=fun {a h'} ha hs b ob e=>by
  obtain ⟨_,_,hfree⟩:=ha
  refine (I.hok b ob e).stay (fun c w' hc q=>(hs.2 c ?_).trans q) (fun _ q=>q) fun _ _ q=>q
  rintro rfl
  rcases hc with rfl | hc
  ·rw [hfree] at e; cases e
  ·rw [hfree] at hc; cases hc
 rcases hx with hk | hk
 ·refine wpAny_storeName_local hk hn (fun h' hn' hs=>?_) hcls
  obtain ⟨oL,_,_,hoL,_⟩:=id hn
  refine h _ ⟨I.ok,I.os,I.bare,⟨fun b o e n hb hx=>?_,fun b o e n hb hx=>?_,I.base.free,fun b o e hx=>?_,I.base.tups,I.base.tZ,I.base.u3⟩,⟨_,hn',fun j y v' e1 e2 e3=>?_⟩,fun y c e=>?_,I.free,I.nW,fun p hp=>?_,tracked ⟨oL,hoL,I.free⟩ hs,by simpa using I.len⟩ ⟨_,hs,.inl rfl⟩
  ·exact (hs.2 b (Nat.ne_of_lt (Nat.lt_of_lt_of_le (Heap.lt_size e) I.ok.above))).trans (I.base.keep b o e n hb hx)
  ·obtain ⟨sl,e1⟩:=I.base.slot b o e n hb hx
   exact ⟨sl,(hs.2 b (Nat.ne_of_lt (Nat.lt_of_lt_of_le (Heap.lt_size e) I.ok.above))).trans e1⟩
  ·obtain ⟨o',e1⟩:=I.base.there b o e hx
   exact ⟨o',(hs.2 b (Nat.ne_of_lt (Nat.lt_of_lt_of_le (Heap.lt_size e) I.ok.above))).trans e1⟩
  ·by_cases hj:j=i
   ·subst hj
    rw [hi] at e1; cases e1
    rw [List.getElem?_set_self hiσ] at e2
    cases e2
    exact ⟨u,r,.inl ⟨hk,by simp⟩⟩
   ·rw [List.getElem?_set_ne (Ne.symm hj)] at e2
    obtain ⟨u',r',q⟩:=hl j y v' e1 e2 e3
    refine ⟨u',r',?_⟩
    rcases q with ⟨k,e⟩ | ⟨k,c,e,z⟩
    ·refine .inl ⟨k,?_⟩
     have:y≠x:=fun e=>hj (GV hN e1 (e▸hi))
     simp [this,e]
    ·exact .inr ⟨k,c,e,z.sameBut hs (cne y c e)⟩
  ·obtain ⟨w',z⟩:=I.cell y c e
   exact ⟨w',z.sameBut hs (cne y c e)⟩
  ·obtain ⟨e,n,ne,nf,d⟩:=I.pin p hp
   exact ⟨(hs.2 p.1 ne).trans e,n,ne,nf,d⟩
 ·have hfn:X.fn x=true:=by
   rcases hf with z | z
   ·exact z
   ·rw [z] at hk; cases hk
  obtain ⟨c,hc⟩:=I.ok.has x (.inl hk)
  obtain ⟨w',z⟩:=I.cell x c hc
  refine wpAny_storeName_cell I.ok.kind hk hc z (fun h' hc' hs=>?_)
  obtain ⟨oc,hoc,aGi⟩:=id z
  refine h { s with heap:=h' } ⟨I.ok,I.os,I.bare,⟨fun b o e n hb hx=>?_,fun b o e n hb hx=>?_,I.base.free,fun b o e hx=>?_,I.base.tups,I.base.tZ,I.base.u3⟩,⟨m,hn.sameBut hs (Ne.symm (cne x c hc)),fun j y v' e1 e2 e3=>?_⟩,fun y c' e=>?_,I.free,I.nW,fun p hp=>?_,tracked ⟨oc,hoc,I.nW x c hc⟩ hs,by simpa using I.len⟩ ⟨c,hs,.inr hc⟩
  ·exact (hs.2 b (Nat.ne_of_lt (Nat.lt_of_lt_of_le (Heap.lt_size e) (I.ok.cab x c hfn hc)))).trans (I.base.keep b o e n hb hx)
  ·obtain ⟨sl,e1⟩:=I.base.slot b o e n hb hx
   exact ⟨sl,(hs.2 b (Nat.ne_of_lt (Nat.lt_of_lt_of_le (Heap.lt_size e) (I.ok.cab x c hfn hc)))).trans e1⟩
  ·obtain ⟨o',e1⟩:=I.base.there b o e hx
   exact ⟨o',(hs.2 b (Nat.ne_of_lt (Nat.lt_of_lt_of_le (Heap.lt_size e) (I.ok.cab x c hfn hc)))).trans e1⟩
  ·by_cases hj:j=i
   ·subst hj
    rw [hi] at e1; cases e1
    rw [List.getElem?_set_self hiσ] at e2
    cases e2
    exact ⟨u,r,.inr ⟨.inl hk,c,hc,hc'⟩⟩
   ·rw [List.getElem?_set_ne (Ne.symm hj)] at e2
    obtain ⟨u',r',q⟩:=hl j y v' e1 e2 e3
    refine ⟨u',r',?_⟩
    rcases q with q | ⟨k,c',e,z'⟩
    ·exact .inl q
    ·refine .inr ⟨k,c',e,z'.sameBut hs ?_⟩
     rintro rfl
     exact hj (GV hN e1 (I.ok.inj _ _ _ e hc▸hi))
  ·by_cases hcc:c' = c
   ·subst hcc; exact ⟨_,hc'⟩
   ·obtain ⟨w2,z2⟩:=I.cell y c' e
    exact ⟨w2,z2.sameBut hs hcc⟩
  ·obtain ⟨e,n,ne,nf,d⟩:=I.pin p hp
   refine ⟨(hs.2 p.1 ?_).trans e,n,ne,nf,d⟩
   intro q
   rw [q,hoc] at e
   have q':oc=p.2:=Option.some.inj e
   exact d w' (by rw [<- q']; exact aGi)
theorem GW {M:Model} {A:Around} {E:Value->Shared->Prop} {i:Nat} {x:Str} {v:V} {u:Value} {Q:Unit->Shared->Prop} (I:Inv X pins σ H s) (hN:X.N.Nodup) (hi:X.N[i]? = some x) (hx:Loc X.env.scope x) (r:RelV v u)
  (h:∀ s',Inv X pins (σ.set i (some v)) H s'->Q () s') (hf:X.fn x=true\/X.env.scope.names.lookup x=some .local:=by first | exact .inl rfl | exact .inr rfl | assumption):wpAny M A (storeName X.env x u) Q E s :=
 BQ I hN hi hx r (fun s' I' _=>h s' I') hf
theorem Inv.call' {s':Shared} {ch:List Addr} (I:Inv X pins σ H s) (ho:s'.os=s.os) (u:Un (frs X.stack) ch H H' s.heap s'.heap) (hok:qA X.prog X.w H' s'.heap) (hg:AllBare s'.gens)
  (hch:∀ b∈ch,(b∈X.ex\/X.s₀.heap.objs.size<=b)/\b≠X.env.locals/\(∀ x c,X.env.cells.lookup x=some c->c≠b) /\ ∀ p∈X.pn++pins,p.1≠b):Inv X pins σ H' s':=by
 obtain ⟨h',g',d',t',o'⟩:=s'
 have e:o' = s.os:=ho
 subst e
 exact I.call (g':=g') (t':=t') (d':=d') u hok hg hch
end
noncomputable abbrev XK:=Value->Option Addr->Hp->Prop
noncomputable abbrev St:=List (Option V)
noncomputable abbrev VK:=V->Hp->Prop
noncomputable abbrev TE:=St->Hp->VK->Prop
noncomputable abbrev TT:=St->Hp->(Bool->Hp->Prop)->Prop
noncomputable abbrev TA:=St->Hp->(List V->Hp->Prop)->Prop
structure Ends where
 nx:St->Hp->Prop
 rt:VK
 bk:St->Hp->Prop:=fun _ _=>False
 ct:St->Hp->Prop:=fun _ _=>False
noncomputable abbrev TS:=Ends->St->Hp->Prop
noncomputable def EP (X:Cx) (pins:List (Addr×Obj)) (σ:St) (Q:VK) (u:Value) (s':Shared):Prop:=∃ v H',Inv X pins σ H' s'/\RelV v u/\Q v H'
noncomputable def TP (X:Cx) (pins:List (Addr×Obj)) (σ:St) (Q:Bool->Hp->Prop) (b:Bool) (s':Shared):Prop:=∃ H',Inv X pins σ H' s'/\Q b H'
noncomputable def AP (X:Cx) (pins:List (Addr×Obj)) (σ:St) (Q:List V->Hp->Prop) (us:List Value) (s':Shared):Prop:=∃ vs H',Inv X pins σ H' s'/\Vals vs us/\Q vs H'
noncomputable def SP (X:Cx) (pins:List (Addr×Obj)) (D:Ends) (f:Flow) (s':Shared):Prop :=
 match f with
 | .next=>∃ σ' H',Inv X pins σ' H' s'/\D.nx σ' H'
 | .brk=>∃ σ' H',Inv X pins σ' H' s'/\D.bk σ' H'
 | .cont=>∃ σ' H',Inv X pins σ' H' s'/\D.ct σ' H'
 | .ret u=>∃ v σ' H',Inv X pins σ' H' s'/\RelV v u/\D.rt v H'
noncomputable def PE (X:Cx) (e:Expr) (t:TE):Prop :=
 ∀ (pins:List (Addr×Obj)) (s:Shared) (σ:St) (H:Hp) (Q:VK),Inv X pins σ H s->t σ H Q->wpAny (model X.prog X.w) X.A (eval e X.env) (EP X pins σ Q) X.xe s
noncomputable def PT (X:Cx) (e:Expr) (t:TT):Prop :=
 ∀ (pins:List (Addr×Obj)) (s:Shared) (σ:St) (H:Hp) (Q:Bool->Hp->Prop),Inv X pins σ H s->t σ H Q->wpAny (model X.prog X.w) X.A (isTrue e X.env (eval e X.env)) (TP X pins σ Q) X.xe s
noncomputable def PW (X:Cx) (e:Expr) (t:TT):Prop :=
 ∀ (whole:Sem Value) (pins:List (Addr×Obj)) (s:Shared) (σ:St) (H:Hp) (Q:Bool->Hp->Prop),Inv X pins σ H s->t σ H Q->wpAny (model X.prog X.w) X.A (isTrue e X.env whole) (TP X pins σ Q) X.xe s
theorem PW.pt {X:Cx} {e:Expr} {t:TT} (h:PW X e t):PT X e t:=h _
noncomputable def PA (X:Cx) (es:List Expr) (t:TA):Prop :=
 ∀ (pos:Pos) (pins:List (Addr×Obj)) (s:Shared) (σ:St) (H:Hp) (Q:List V->Hp->Prop),Inv X pins σ H s->t σ H Q->wpAny (model X.prog X.w) X.A (spliced (backTo pos (starEach es X.env))) (AP X pins σ Q) X.xe s
noncomputable def PS (X:Cx) (st:Stmt) (t:TS):Prop :=
 ∀ (pins:List (Addr×Obj)) (s:Shared) (σ:St) (H:Hp) (D:Ends),Inv X pins σ H s->t D σ H->wpAny (model X.prog X.w) X.A (exec st X.env) (SP X pins D) X.xe s
noncomputable def BR (X:Cx) (st:List Stmt) (t:TS):Prop :=
 ∀ (pins:List (Addr×Obj)) (s:Shared) (σ:St) (H:Hp) (D:Ends),Inv X pins σ H s->t D σ H->wpAny (model X.prog X.w) X.A (execs st X.env) (SP X pins D) X.xe s
theorem fB {α:Type} {t:Sem α} {Q Q':α->Shared->Prop} {M:Model} {A:Around} {E:Value->Shared->Prop} {s:Shared} (h:wpAny M A t Q E s) (hQ:∀ a s,Q a s->Q' a s):wpAny M A t Q' E s:=wpAny_mono h hQ fun _ _ x=>x
end L2
namespace L2
open PySem PySem.Spec PyProof.Rows
section
variable {X:Cx}
noncomputable def V8 (i:Nat):TE:=fun σ H Q=>∃ v,σ[i]? = some (some v)/\Q v H
noncomputable def tC (v:V):TE:=fun _ H Q=>Q v H
theorem qU {i:Nat} {x:Str} {pos:Pos} (hN:X.N[i]? = some x) (hv:GU X.env.scope x) (hd:(x == ("__debug__" : Str))=false:=by decide) (hcd:(x == ("__classdict__" : Str))=false:=by decide):PE X (.Name x pos) (V8 i):=by
 intro pins s σ H Q I h
 obtain ⟨v,e,h⟩:=h
 obtain ⟨m,hn,hl⟩:=I.loc
 obtain ⟨u,r,l⟩:=hl i x v hN e hv
 have fin:EP X pins σ Q u s:=⟨v,H,I,r,h⟩
 rcases l with ⟨hk,hm⟩ | ⟨hk,c,hc,hcell⟩
 ·exact wpAny_Name (wpAny_loadName_local I.ok.kind hk hn hm fin) hd
 ·rcases hk with hk | hk
  ·exact wpAny_Name (wpAny_loadName_cell I.ok.kind hk hc hcell fin) hd
  ·exact wpAny_Name (wpAny_loadName_free I.ok.kind hk hc hcell fin hcd) hd
theorem aAD {i j pos}:PE X (.Constant (.int i) j pos) (tC (.int i)):=fun _ _ _ H _ I h=>wpAny_Constant_int ⟨.int i,H,I.tok _,⟨_,rfl⟩,h⟩
theorem aCT {b j pos}:PE X (.Constant (.bool b) j pos) (tC (.bl b)):=fun _ _ _ H _ I h=>Constant_bool ⟨.bl b,H,I,rfl,h⟩
theorem aAE {j pos}:PE X (.Constant .none j pos) (tC .non):=fun _ _ _ H _ I h=>Constant_none ⟨.non,H,I,rfl,h⟩
noncomputable def Gl (X:Cx) (x:Str):Prop:=X.env.kindOf x=some .globalImplicit
theorem MI {E:Value->Shared->Prop} {pins:List (Addr×Obj)} {s:Shared} {σ:St} {H:Hp} {x:Str} {u:Value} {pos:Pos} {Q:Value->Shared->Prop} (I:Inv X pins σ H s) (hg:Gl X x) (hm:X.mg x=some u) (h:Q u s)
  (hd:(x == ("__debug__" : Str))=false:=by decide):wpAny (model X.prog X.w) X.A (eval (.Name x pos) X.env) Q E s :=
 Calls.Name_function_global I.ok.kind hg (Calls.loadGlobal_global (by rw [I.ok.glob]; exact I.mod.glob.keeps I.bk) hm h) hd
theorem m7 {E:Value->Shared->Prop} {pins:List (Addr×Obj)} {s:Shared} {σ:St} {H:Hp} {x:Str} {u:Value} {pos:Pos} {Q:Value->Shared->Prop} (I:Inv X pins σ H s) (hg:Gl X x) (hm:X.mg x=none) (hv:bootBuiltins x=some u) (h:Q u s)
  (hn:x ≠ "__name__" := by decide) (hd:(x == ("__debug__" : Str))=false:=by decide):wpAny (model X.prog X.w) X.A (eval (.Name x pos) X.env) Q E s:=by
 obtain ⟨mb,h1,h2⟩:=I.mod.blt
 exact Calls.Name_function_global I.ok.kind hg (Calls.loadGlobal_builtin (by rw [I.ok.glob]; exact I.mod.glob.keeps I.bk) hm (by rw [I.ok.blt]; exact h1.keeps I.bk) ((h2 x hn).trans hv) h) hd
theorem V9 {x:Str} {v:V} {u:Value} {pos:Pos} (hg:Gl X x) (hm:X.mg x=some u) (r:RelV v u) (hd:(x == ("__debug__" : Str))=false:=by decide):PE X (.Name x pos) (tC v) :=
 fun _ _ _ H _ I h=>MI I hg hm ⟨v,H,I,r,h⟩ hd
theorem WB {x:Str} {v:V} {u:Value} {pos:Pos} (hg:Gl X x) (hm:X.mg x=none) (hv:bootBuiltins x=some u) (r:RelV v u) (hn:x ≠ "__name__" := by decide) (hd:(x == ("__debug__" : Str))=false:=by decide):PE X (.Name x pos) (tC v) :=
 fun _ _ _ H _ I h=>m7 I hg hm hv ⟨v,H,I,r,h⟩ hn hd
variable {a b:Expr} {ta tb:TE} {pos:Pos}
noncomputable def PC (X:Cx) (op:CmpOp) (a b:Expr) (t:TE):Prop :=
 ∀ (pins:List (Addr×Obj)) (s:Shared) (σ:St) (H:Hp) (Q:VK),Inv X pins σ H s->t σ H Q ->
  wpAny (model X.prog X.w) X.A (eval a X.env) (fun v s₁=>wpAny (model X.prog X.w) X.A (eval b X.env) (fun u s₂=>wpAny (model X.prog X.w) X.A (compareOp op v u) (EP X pins σ Q) X.xe s₂) X.xe s₁) X.xe s
noncomputable def tB (t:TE):TT:=fun σ H Q=>t σ H fun x H1=>∃ c,x=.bl c/\Q c H1
theorem aAF {op:CmpOp} {t:TE} (h:PC X op a b t) (h1:behindInMarks op b=false:=by first | exact aCU _ (by decide) (by decide) | rfl):PT X (.Compare a [op] [b] pos) (tB t):=by
 intro pins s σ H Q I hw
 refine wpAny_isTrue_Compare1 (fB (h pins s σ H _ I hw) fun v s1 h1=>fB h1 fun u s2 h2=>fB h2 fun c s3 ⟨x,H1,I1,r1,q1⟩=>?_) h1
 obtain ⟨d,rfl,q⟩:=q1
 cases r1
 exact wpAny_truthy_bool ⟨H1,I1,q⟩
variable {tA tB':TT} {rest:List Expr}
noncomputable def uW (t u:TT):TT:=fun σ H Q=>t σ H fun c H1=>if c=true then u σ H1 Q else Q false H1
noncomputable def FE (t u:TT):TT:=fun σ H Q=>t σ H fun c H1=>if c=true then Q true H1 else u σ H1 Q
noncomputable def jL (t:TT):TT:=fun σ H Q=>t σ H fun c H1=>Q (!c) H1
theorem WC (ha:PT X a tA):PW X (.BoolOp .And [a] pos) tA:=by
 intro wh pins s σ H Q I h
 refine isTrue_and (fB (ha pins s σ H Q I h) fun c s1 e=>?_)
 cases c with
 | true=>exact isTrue_and_nil e
 | false=>exact e
theorem aAG (ha:PT X a tA):PW X (.BoolOp .Or [a] pos) tA:=by
 intro wh pins s σ H Q I h
 refine isTrue_or (fB (ha pins s σ H Q I h) fun c s1 e=>?_)
 cases c with
 | false=>exact isTrue_or_nil e
 | true=>exact e
theorem aAH (ha:PT X a tA) (hb:PW X (.BoolOp .And (b::rest) pos) tB'):PW X (.BoolOp .And (a::b::rest) pos) (uW tA tB'):=by
 intro wh pins s σ H Q I h
 refine isTrue_and (fB (ha pins s σ H _ I h) fun c s1 ⟨H1,I1,q1⟩=>?_)
 cases c with
 | true=>exact hb wh pins s1 σ H1 Q I1 q1
 | false=>exact ⟨H1,I1,q1⟩
theorem aCV (ha:PT X a tA) (hb:PW X (.BoolOp .Or (b::rest) pos) tB'):PW X (.BoolOp .Or (a::b::rest) pos) (FE tA tB'):=by
 intro wh pins s σ H Q I h
 refine isTrue_or (fB (ha pins s σ H _ I h) fun c s1 ⟨H1,I1,q1⟩=>?_)
 cases c with
 | true=>exact ⟨H1,I1,q1⟩
 | false=>exact hb wh pins s1 σ H1 Q I1 q1
theorem aAI (ha:PT X a tA):PT X (.UnaryOp .Not a pos) (jL tA):=by
 intro pins s σ H Q I h
 exact isTrue_not (ha pins s σ H (fun c H1=>Q (!c) H1) I h)
noncomputable def aCW (ta tb:TE):TE:=fun σ H Q=>ta σ H fun x H1=>∃ c,x=.bl c/\if c=true then tb σ H1 Q else Q (.bl false) H1
noncomputable def aCX (ta:TE):TE:=fun σ H Q=>ta σ H fun x H1=>∃ c,x=.bl c/\Q (.bl (!c)) H1
theorem aAJ {op} {t:TE} (h:PE X a t):PE X (.BoolOp op [a] pos) t:=fun pins s σ H Q I hw=>BoolOp_one (h pins s σ H Q I hw)
theorem aAK (ha:PE X a ta) (hb:PE X (.BoolOp .And (b::rest) pos) tb):PE X (.BoolOp .And (a::b::rest) pos) (aCW ta tb):=by
 intro pins s σ H Q I h
 refine BoolOp_and (fB (ha pins s σ H _ I h) fun v s1 ⟨x,H1,I1,r1,q1⟩=>?_)
 obtain ⟨c,rfl,q1⟩:=q1
 cases r1
 refine wpAny_truthy_bool ?_
 cases c with
 | true=>exact hb pins s1 σ H1 Q I1 q1
 | false=>exact ⟨.bl false,H1,I1,rfl,q1⟩
theorem aAL (ha:PE X a ta):PE X (.UnaryOp .Not a pos) (aCX ta):=by
 intro pins s σ H Q I h
 refine UnaryOp_ (fB (ha pins s σ H _ I h) fun v s1 ⟨x,H1,I1,r1,q1⟩=>?_)
 obtain ⟨c,rfl,q1⟩:=q1
 cases r1
 exact not_of (wpAny_truthy_bool ⟨.bl (!c),H1,I1,rfl,q1⟩)
noncomputable def tIf (t:TT) (ta tb:TE):TE:=fun σ H Q=>t σ H fun c H1=>if c=true then ta σ H1 Q else tb σ H1 Q
theorem RX {c:Expr} (hc:PT X c tA) (ha:PE X a ta) (hb:PE X b tb):PE X (.IfExp c a b pos) (tIf tA ta tb):=by
 intro pins s σ H Q I h
 refine wpAny_IfExp (fB (hc pins s σ H _ I h) fun d s1 ⟨H1,I1,q1⟩=>?_)
 cases d with
 | true=>exact ha pins s1 σ H1 Q I1 q1
 | false=>exact hb pins s1 σ H1 Q I1 q1
end
end L2
namespace L2
open PySem PySem.Spec PyProof.Rows
noncomputable def gB (K:PySem.W.Frag) (H:Hp) (a:Addr) (xs:List V):Prop :=
 Rd H a (.lst xs) \/
  ∃ (o:Obj) (its:Array Value) (n:Nat),K.lookup a=some o/\o.cls=.type "list" /\ o.dict=none/\o.data=.seq its n/\its.size<=sizeLine/\Vals xs its.toList
noncomputable def iP (K:PySem.W.Frag) (H:Hp) (a:Addr) (xs:List V):Prop :=
 Rd H a (.tup xs) \/
  ∃ (o:Obj) (its:Array Value) (n:Nat),K.lookup a=some o/\o.cls=.type "tuple" /\ o.data=.seq its n/\its.size<=sizeLine/\Vals xs its.toList
noncomputable def aGj:Value->Option V
 | .none=>some .non
 | .bool b=>some (.bl b)
 | .int i _=>some (.int i)
 | .str x _=>some (.str x)
 | .bytes b _=>some (.NU b)
 | .float b _=>some (.flt b)
 | .ref a=>some (.ref a)
 | .type n=>some (.ty n)
 | _=>none
theorem RelV.abs {x:V} {u:Value} (r:RelV x u):aGj u=some x:=by
 cases x with
 | non=>cases r; rfl
 | bl _=>cases r; rfl
 | int _=>obtain ⟨t,rfl⟩:=r; rfl
 | str _=>obtain ⟨t,rfl⟩:=r; rfl
 | NU _=>obtain ⟨t,rfl⟩:=r; rfl
 | flt _=>obtain ⟨t,rfl⟩:=r; rfl
 | ref _=>cases r; rfl
 | ty _=>cases r; rfl
theorem RelV.inj {x y:V} {u:Value} (r:RelV x u) (q:RelV y u):x=y:=Option.some.inj (r.abs.symm.trans q.abs)
theorem Vals.inj:∀ {xs ys:List V} {us:List Value},Vals xs us->Vals ys us->xs=ys
 | _,_,_,.nil,.nil=>rfl
 | _,_,_,.cons r t,.cons r' t'=>by rw [r.inj r',Vals.inj t t']
section
variable {X:Cx} {pins:List (Addr×Obj)} {σ:St} {H:Hp} {s:Shared} {a:Addr} {xs ys:List V}
theorem gB.of {K:PySem.W.Frag} (h:H a=some (.lst xs)):gB K H a xs:=.inl (.inl h)
theorem iP.of {K:PySem.W.Frag} (h:H a=some (.tup xs)):iP K H a xs:=.inl (.inl h)
theorem Inv.list (I:Inv X pins σ H s) (h:gB X.K H a xs):∃ its:List Value,Vals xs its/\PlainL s.heap a its.toArray/\xs.length<=sizeLine:=by
 rcases h with h | ⟨o,its,n,hk,hc,hd,hs,hz,r⟩
 ·obtain ⟨z,its,n,r,e⟩:=h.ok I.hok
  exact ⟨its,r,⟨_,n,e,rfl,rfl,rfl⟩,z⟩
 ·refine ⟨its.toList,r,⟨o,n,I.D6 a o hk,hc,hd,by simpa using hs⟩,?_⟩
  have e:=r.length
  simp only [Array.length_toList] at e
  omega
theorem Inv.tuple (I:Inv X pins σ H s) (h:iP X.K H a xs):∃ its:List Value,Vals xs its/\IsTup s.heap a its.toArray/\xs.length<=sizeLine:=by
 rcases h with h | ⟨o,its,n,hk,hc,hs,hz,r⟩
 ·obtain ⟨z,its,r,p⟩:=h.ok I.hok
  exact ⟨its,r,p,z⟩
 ·refine ⟨its.toList,r,⟨o,I.D6 a o hk,hc,n,by simpa using hs⟩,?_⟩
  have e:=r.length
  simp only [Array.length_toList] at e
  omega
theorem Inv.gO (I:Inv X pins σ H s) (h:gB X.K H a xs) (h':gB X.K H a ys):xs=ys:=by
 obtain ⟨its,r,⟨o,n,e,_,_,d⟩,_⟩:=I.list h
 obtain ⟨its',r',⟨o',n',e',_,_,d'⟩,_⟩:=I.list h'
 rw [e] at e'; cases e'
 rw [d] at d'
 injection d' with d1 _
 have:its=its':=by simpa using congrArg Array.toList d1
 subst this
 exact r.inj r'
theorem Inv.pG (I:Inv X pins σ H s) (h:iP X.K H a xs) (h':iP X.K H a ys):xs=ys:=by
 obtain ⟨its,r,⟨o,e,_,n,d⟩,_⟩:=I.tuple h
 obtain ⟨its',r',⟨o',e',_,n',d'⟩,_⟩:=I.tuple h'
 rw [e] at e'; cases e'
 rw [d] at d'
 injection d' with d1 _
 have:its=its':=by simpa using congrArg Array.toList d1
 subst this
 exact r.inj r'
end
noncomputable abbrev Cx.wish (X:Cx) (E:Value->Shared->Prop):Cx:={ X with xe:=E }
noncomputable abbrev Cx.nox (X:Cx):Cx:=X.wish fun _ _=>False
theorem Cx.Ok.wish {X:Cx} (ok:X.Ok) (E:Value->Shared->Prop):(X.wish E).Ok :=
 ⟨ok.mod,ok.kind,ok.glob,ok.blt,ok.above,ok.inj,ok.has,ok.cab,ok.hd,ok.frames,ok.stk,ok.exf,ok.bs,ok.V6,ok.RW,ok.V7,ok.yJ,ok.frf⟩
theorem Cx.Ok.nX {X:Cx} {E:Value->Shared->Prop} (ok:(X.wish E).Ok):X.Ok :=
 ⟨ok.mod,ok.kind,ok.glob,ok.blt,ok.above,ok.inj,ok.has,ok.cab,ok.hd,ok.frames,ok.stk,ok.exf,ok.bs,ok.V6,ok.RW,ok.V7,ok.yJ,ok.frf⟩
section
variable {X:Cx} {pins:List (Addr×Obj)} {σ:St} {H:Hp} {s:Shared} {E:Value->Shared->Prop}
theorem Inv.wish (I:Inv X pins σ H s) (E:Value->Shared->Prop):Inv (X.wish E) pins σ H s:=⟨I.ok.wish E,I.os,I.bare,I.base,I.loc,I.cell,I.free,I.nW,I.pin,I.hok,I.len⟩
theorem Inv.nX (I:Inv (X.wish E) pins σ H s):Inv X pins σ H s:=⟨I.ok.nX,I.os,I.bare,I.base,I.loc,I.cell,I.free,I.nW,I.pin,I.hok,I.len⟩
theorem SP.nX {D:Ends} {f:Flow} {s':Shared} (h:SP (X.wish E) pins D f s'):SP X pins D f s':=by
 cases f with
 | next=>obtain ⟨σ',H',I,q⟩:=h; exact ⟨σ',H',I.nX,q⟩
 | brk=>obtain ⟨σ',H',I,q⟩:=h; exact ⟨σ',H',I.nX,q⟩
 | cont=>obtain ⟨σ',H',I,q⟩:=h; exact ⟨σ',H',I.nX,q⟩
 | ret u=>obtain ⟨v,σ',H',I,r,q⟩:=h; exact ⟨v,σ',H',I.nX,r,q⟩
theorem BR.nox {st:List Stmt} {t:TS} (h:BR X.nox st t):BR X st t:=fun pins s σ H D I hw =>
 wpAny_mono (h pins s σ H D (I.wish _) hw) (fun _ _ q=>q.nX) fun _ _ z=>False.elim z
end
section
variable {X:Cx} {st:Stmt} {rest:List Stmt} {t u:TS} {e:Expr} {te:TE} {pos:Pos}
noncomputable def aCY:TS:=fun D σ H=>D.nx σ H
noncomputable def RY (t u:TS):TS:=fun D σ H=>t { D with nx:=u D } σ H
theorem WD:BR X [] aCY:=fun _ _ σ H _ I h=>wpAny_execs_nil ⟨σ,H,I,h⟩
theorem yL (h1:PS X st t) (h2:BR X rest u):BR X (st::rest) (RY t u):=by
 intro pins s σ H D I h
 refine wpAny_execs_cons (fB (h1 pins s σ H { D with nx:=u D } I h) fun f s1 q=>?_)
 cases f with
 | next =>
  obtain ⟨σ',H',I',q⟩:=q
  exact h2 pins s1 σ' H' D I' q
 | ret v=>exact q
 | brk=>exact q
 | cont=>exact q
theorem MJ (h1:PS X st t):BR X [st] t:=by
 intro pins s σ H D I h
 refine wpAny_execs_cons (fB (h1 pins s σ H D I h) fun f s1 q=>?_)
 cases f with
 | next=>exact wpAny_execs_nil q
 | ret v=>exact q
 | brk=>exact q
 | cont=>exact q
theorem Inv.quiet {pins:List (Addr×Obj)} {σ:St} {H:Hp} {s:Shared} (I:Inv X pins σ H s):interactive X.env=false:=by simp [interactive,I.ok.kind]
noncomputable def aCZ (te:TE):TS:=fun D σ H=>te σ H fun _ H1=>D.nx σ H1
theorem MK (he:PE X e te) (hs:swapsWith e none pos.line X.env=pure false:=by rfl):PS X (.Expr e pos) (aCZ te):=by
 intro pins s σ H D I h
 exact wpAny_Expr_any (fB (he pins s σ H _ I h) fun v s1 ⟨x,H1,I1,r1,q1⟩=>⟨σ,H1,I1,q1⟩) I.quiet hs
noncomputable def aC0 (te:TE):TS:=fun D σ H=>te σ H D.rt
theorem RZ (he:PE X e te):PS X (.Return (some e) pos) (aC0 te):=by
 intro pins s σ H D I h
 exact wpAny_Return_some (fB (he pins s σ H _ I h) fun v s1 ⟨x,H1,I1,r1,q1⟩=>⟨x,σ,H1,I1,r1,q1⟩)
noncomputable def aGk (c:TT) (t u:TS):TS:=fun D σ H=>c σ H fun b H1=>if b=true then t D σ H1 else u D σ H1
theorem aC1 {c:Expr} {a b:List Stmt} {tc:TT} (hc:PT X c tc) (ha:BR X a t) (hb:BR X b u):PS X (.If c a b pos) (aGk tc t u):=by
 intro pins s σ H D I h
 refine wpAny_If (fB (hc pins s σ H _ I h) fun d s1 ⟨H1,I1,q1⟩=>?_)
 cases d with
 | true=>exact ha pins s1 σ H1 D I1 q1
 | false=>exact hb pins s1 σ H1 D I1 q1
end
noncomputable abbrev TG:=V->St->Hp->(St->Hp->Prop)->Prop
noncomputable abbrev TGs:=List V->St->Hp->(St->Hp->Prop)->Prop
noncomputable def PG (X:Cx) (target:Expr) (t:TG):Prop :=
 ∀ (pins:List (Addr×Obj)) (s:Shared) (σ:St) (H:Hp) (v:V) (u:Value) (Q:St->Hp->Prop),Inv X pins σ H s->RelV v u->t v σ H Q ->
  wpAny (model X.prog X.w) X.A (assign target X.env u) (fun _ s'=>∃ σ' H',Inv X pins σ' H' s'/\Q σ' H') X.xe s
noncomputable def PGs (X:Cx) (ts:List Expr) (t:TGs):Prop :=
 ∀ (pins:List (Addr×Obj)) (s:Shared) (σ:St) (H:Hp) (vs:List V) (us:List Value) (Q:St->Hp->Prop),Inv X pins σ H s->Vals vs us->t vs σ H Q ->
  wpAny (model X.prog X.w) X.A (assignInOrder ((assignEach ts X.env).map (·.2)) us) (fun _ s'=>∃ σ' H',Inv X pins σ' H' s'/\Q σ' H') X.xe s
noncomputable abbrev aAO:=V->V->V->Hp->(Hp->Prop)->Prop
noncomputable def aC2 (X:Cx) (t:aAO):Prop :=
 ∀ (pins:List (Addr×Obj)) (s:Shared) (σ:St) (H:Hp) (o i v:V) (ov iv u:Value) (Q:Hp->Prop),Inv X pins σ H s->RelV o ov->RelV i iv->RelV v u->t o i v H Q ->
  wpAny (model X.prog X.w) X.A (setItem ov iv u) (fun _ s'=>∃ H',Inv X pins σ H' s'/\Q H') X.xe s
section
variable {X:Cx} {pos:Pos}
noncomputable def R1 (i:Nat):TG:=fun v σ H Q=>Q (σ.set i (some v)) H
theorem vZ {i:Nat} {x:Str} (hN:X.N.Nodup) (hi:X.N[i]? = some x) (hx:Loc X.env.scope x) (hf:X.fn x=true\/X.env.scope.names.lookup x=some .local:=by first | exact .inl rfl | exact .inr rfl | assumption):PG X (.Name x pos) (R1 i):=by
 intro pins s σ H v u Q I r h
 exact wpAny_assign_Name (GW I hN hi hx r (fun s' I'=>⟨_,H,I',h⟩) hf)
noncomputable def aGl:TGs:=fun vs σ H Q=>vs=[]/\Q σ H
noncomputable def aC3 (t:TG) (u:TGs):TGs:=fun vs σ H Q=>∃ v r,vs=v::r/\t v σ H fun σ' H'=>u r σ' H' Q
theorem WF:PGs X [] aGl:=by
 intro pins s σ H vs us Q I r h
 obtain ⟨e,h⟩:=h
 subst e
 cases r
 exact assignInOrder_nil ⟨σ,H,I,h⟩
theorem GX {e:Expr} {es:List Expr} {t:TG} {u:TGs} (h1:PG X e t) (h2:PGs X es u)
  (hs:(assignEach (e::es) X.env).map (·.2)=assign e X.env::(assignEach es X.env).map (·.2):=by rfl):PGs X (e::es) (aC3 t u):=by
 intro pins s σ H vs us Q I r h
 obtain ⟨v,vr,e1,h⟩:=h
 subst e1
 cases r with
 | cons r rr =>
  rw [hs]
  refine assignInOrder_cons (fB (h1 pins s σ H _ _ _ I r h) fun _ s1 ⟨σ1,H1,I1,q1⟩=>?_)
  exact h2 pins s1 σ1 H1 _ _ Q I1 rr q1
noncomputable def aGm (K:PySem.W.Frag) (n:Nat) (t:TGs):TG:=fun v σ H Q=>∃ a xs,v=.ref a/\iP K H a xs/\xs.length=n/\t xs σ H Q
theorem aAP {es:List Expr} {k:Nat} {t:TGs} {n:Nat} (hc:X.calm=true) (h:PGs X es t)
  (hn:(assignEach es X.env).length=n:=by rfl) (hst:(assignEach es X.env).findIdx? (·.1)=none:=by rfl):PG X (.Tuple es k pos) (aGm X.K n t):=by
 intro pins s σ H v u Q I r hw
 obtain ⟨a,xs,e1,hq,hl,hw⟩:=hw
 subst e1
 cases r
 obtain ⟨its,rv,ht,hz⟩:=I.tuple hq
 refine assign_Tuple_tuple (I.ok.hd hc) ht (by simp [hn,<- hl,rv.length]) hst fun h' hx=>?_
 have I1:Inv X pins σ H { s with heap:=h' }:=I.kept (t':=s.toks) fun b o e=>hx b o (Nat.ne_of_lt (Heap.lt_size e)) e
 exact h pins _ σ H xs _ Q I1 (by simpa using rv) hw
noncomputable def aGn (to ti:TE) (t:aAO):TG:=fun v σ H Q=>to σ H fun o H1=>ti σ H1 fun i H2=>t o i v H2 fun H3=>Q σ H3
theorem aAQ {o i:Expr} {to ti:TE} {t:aAO} (ho:PE X o to) (hi:PE X i ti) (hs:aC2 X t)
  (ha:∀ v,assign (.Subscript o i pos) X.env v=(do
   let ov <- holding [v] (eval o X.env)
   let iv <- holding [v,ov] (eval i X.env)
   standAt pos
   holding [v,ov,iv] (setItem ov iv v)
   release [v,ov,iv] []):=by intro _; rfl):PG X (.Subscript o i pos) (aGn to ti t):=by
 intro pins s σ H v u Q I r h
 rw [ha]
 refine wpAny_bind (wpAny_holding (fB (ho pins s σ H _ I h) fun ov s1 ⟨x,H1,I1,r1,q1⟩=>?_))
 refine wpAny_bind (wpAny_holding (fB (hi pins s1 σ H1 _ I1 q1) fun iv s2 ⟨y,H2,I2,r2,q2⟩=>?_))
 refine wpAny_bind (wpAny_standAt (wpAny_bind (wpAny_holding (fB (hs pins s2 σ H2 x y v ov iv u _ I2 r1 r2 r q2) fun _ s3 ⟨H3,I3,q3⟩=>?_))))
 exact wpAny_release ⟨σ,H3,I3,q3⟩
noncomputable def aAR (te:TE) (g:TG):TS:=fun D σ H=>te σ H fun x H1=>g x σ H1 D.nx
theorem aAS {tg e:Expr} {te:TE} {g:TG} (he:PE X e te) (hg:PG X tg g) (hs:swapsWithSole [tg] e pos.line X.env=pure false:=by rfl) (hw:swappedStores [tg] e X.env=pure none:=by rfl)
  (h1:(assignEach [tg] X.env).map (·.2)=[assign tg X.env]:=by rfl):PS X (.Assign [tg] e pos) (aAR te g):=by
 intro pins s σ H D I h
 refine wpAny_Assign_stores (fB (he pins s σ H _ I h) fun v s1 ⟨x,H1,I1,r1,q1⟩=>?_) hs hw
 rw [h1]
 exact fB (hg pins s1 σ H1 x v _ I1 r1 q1) fun _ s2 q=>q
theorem t5 {i:Nat} {x:Str} {e:Expr} {te:TE} {pos':Pos} (hN:X.N.Nodup) (hi:X.N[i]? = some x) (hx:Loc X.env.scope x) (he:PE X e te) (hs:swapsWith e (some (.Name x pos')) pos.line X.env=pure false:=by rfl) (hf:X.fn x=true\/X.env.scope.names.lookup x=some .local:=by first | exact .inl rfl | exact .inr rfl | assumption) :
  PS X (.Assign [.Name x pos'] e pos) (aAR te (R1 i)):=by
 intro pins s σ H D I h
 refine wpAny_Assign_Name (fB (he pins s σ H _ I h) fun v s1 ⟨y,H1,I1,r1,q1⟩=>?_) hs
 exact GW I1 hN hi hx r1 (fun s2 I2=>⟨_,H1,I2,q1⟩) hf
end
section
variable {X:Cx} {pos:Pos}
noncomputable def aAT (c:TT) (tb:TS):TS:=fun D σ H=>∃ W:Nat->St->Hp->Prop,(∃ m,W m σ H) /\ ∀ m σ H,W m σ H ->
 c σ H fun b H1=>if b=true then ∃ N:St->Hp->Prop,(∀ σ' H',N σ' H' -> ∃ m',m'<m/\W m' σ' H')/\tb { D with nx:=N,ct:=N,bk:=D.nx } σ H1 else D.nx σ H1
theorem R3 {c:Expr} {body:List Stmt} {tc:TT} {tb:TS} (hp:PassesOwn (model X.prog X.w) X.A X.env X.xe) (hc:PT X c tc) (hb:BR X body tb):PS X (.While c body [] pos) (aAT tc tb):=by
 intro pins s σ H D I h
 obtain ⟨W,⟨m0,w0⟩,turn⟩:=h
 refine wpAny_While (codeAny_whileLoop (fun n s'=>∃ σ' H',Inv X pins σ' H' s'/\W n σ' H') ?_ m0 ⟨σ,H,I,w0⟩)
 rintro n s1 ⟨σ1,H1,I1,w1⟩
 refine wpAny_passesOwn hp (fB (hc pins s1 σ1 H1 _ I1 (turn n σ1 H1 w1)) fun b s2 ⟨H2,I2,q2⟩=>?_)
 cases b with
 | true =>
  obtain ⟨N,hN,q2⟩:=q2
  rw [if_pos rfl]
  refine wpAny_passesOwn hp (fB (hb pins s2 σ1 H2 _ I2 q2) fun f s3 q3=>?_)
  cases f with
  | next =>
   obtain ⟨σ3,H3,I3,n3⟩:=q3
   obtain ⟨m',hm,w3⟩:=hN σ3 H3 n3
   exact ⟨m',hm,σ3,H3,I3,w3⟩
  | cont =>
   obtain ⟨σ3,H3,I3,n3⟩:=q3
   obtain ⟨m',hm,w3⟩:=hN σ3 H3 n3
   exact ⟨m',hm,σ3,H3,I3,w3⟩
  | brk=>exact q3
  | ret v=>exact q3
 | false =>
  rw [if_neg Bool.false_ne_true]
  exact wpAny_execs_nil ⟨σ1,H2,I2,q2⟩
end
structure It where
 go:Nat->Hp->Prop
 yld:Nat->Hp->V->Hp->Prop
 stop:Nat->Hp->Prop
noncomputable def qV (X:Cx) (pins:List (Addr×Obj)) (H:Hp) (b:Addr):Prop :=
 H b=none/\b≠X.env.locals/\b∉X.fs/\(b∈X.ex\/X.s₀.heap.objs.size<=b)/\(∀ x c,X.env.cells.lookup x=some c->c≠b) /\ ∀ p∈X.pn++pins,p.1≠b
theorem Inv.JJ {X:Cx} {pins:List (Addr×Obj)} {σ:St} {H H':Hp} {s:Shared} {b:Addr} (I:Inv X pins σ H s) (hb:s.heap.objs.size<=b) (hn:H' b=none):qV X pins H' b:=by
 refine ⟨hn,Nat.ne_of_gt (Nat.lt_of_lt_of_le I.lt hb),I.aGh hb,.inr (Nat.le_trans I.sz hb),fun x c e z=>?_,fun p hp z=>?_⟩
 ·obtain ⟨v,q⟩:=I.cell x c e
  exact absurd (Nat.lt_of_lt_of_le q.lt (by rw [z]; exact hb)) (Nat.lt_irrefl _)
 ·exact absurd (Nat.lt_of_lt_of_le (Heap.lt_size (I.pin p hp).1) (by rw [z]; exact hb)) (Nat.lt_irrefl _)
structure Turn (P:Program) (w:World) (K:PySem.W.Frag) (tg:Expr) (J:It) (fp:List Addr) (it:Addr) (tn:Nat->Heap->Prop):Prop where
 mem:it∈fp
 obj:∀ i h,tn i h -> ∀ b∈fp,∃ o,h.get? b=some o /\ ∀ v,o.data≠.cell v
 keep:∀ i h h',tn i h->(∀ b∈fp,∀ o,h.get? b=some o->h'.get? b=some o)->tn i h'
 item:∀ (X:Cx),X.prog=P->X.w=w->X.K=K->X.calm=true -> ∀ (i:Nat) (pins:List (Addr×Obj)) (s:Shared) (σ:St) (H:Hp) (E:Value->Shared->Prop),Inv X pins σ H s->(∀ b∈fp,qV X pins H b)->tn i s.heap->J.go i H ->
  wpAny (model P w) X.A (pyNext (.ref it)) (fun r s1=>∃ u,r=some u /\
   wpAny (model P w) X.A (letOwnedTupleGo tg (.ref it) u) (fun _ s2=>∃ x H',Inv X pins σ H' s2/\RelV x u/\J.yld i H x H'/\tn (i+1) s2.heap /\ ∀ b∈fp,H' b=none) E s1) E s
 done:∀ (X:Cx),X.prog=P->X.w=w->X.K=K->X.calm=true -> ∀ (i:Nat) (pins:List (Addr×Obj)) (s:Shared) (σ:St) (H:Hp) (E:Value->Shared->Prop),Inv X pins σ H s->(∀ b∈fp,qV X pins H b)->tn i s.heap->J.stop i H ->
  wpAny (model P w) X.A (pyNext (.ref it)) (fun r s1=>r=none/\Inv X pins σ H s1) E s
 self:∀ (A:Around) (i:Nat) (s:Shared) (Q:Value->Shared->Prop) (E:Value->Shared->Prop),tn i s.heap->Q (.ref it) s->wpAny (model P w) A (pyIter (.ref it)) Q E s
noncomputable abbrev TI:=St->Hp->(It->Hp->Prop)->Prop
noncomputable def PIE (X:Cx) (pins:List (Addr×Obj)) (σ:St) (tg:Expr) (R:It->Hp->Prop) (itv:Value) (s2:Shared):Prop :=
 ∃ (it:Addr) (fp:List Addr) (tn:Nat->Heap->Prop) (J:It) (H':Hp),itv=.ref it/\Inv X pins σ H' s2/\Turn X.prog X.w X.K tg J fp it tn/\tn 0 s2.heap/\(∀ b∈fp,qV X pins H' b)/\R J H'
noncomputable def PI (X:Cx) (tg iter:Expr) (wi:TI):Prop :=
 ∀ (pins:List (Addr×Obj)) (s:Shared) (σ:St) (H:Hp) (R:It->Hp->Prop),Inv X pins σ H s->wi σ H R ->
  wpAny (model X.prog X.w) X.A (eval iter X.env) (fun v s1=>wpAny (model X.prog X.w) X.A (pyIter v) (PIE X pins σ tg R) X.xe s1) X.xe s
theorem R4 {M:Model} {A:Around} {E:Value->Shared->Prop} {s:Shared} {tg:Expr} {it:Addr} {u:Value} {o:Obj} {n:String} {vs:Array Value} {Q:Unit->Shared->Prop} (ho:s.heap.get? it=some o) (hc:o.cls=.type n) (hd:o.data=.fields vs)
  (hn:["enumerate", "zip", "dict_itemiterator", "dict_reverseitemiterator", "odict_iterator", "itertools.zip_longest", "itertools.pairwise"].contains n=false) (hQ:Q () s):wpAny M A (letOwnedTupleGo tg (.ref it) u) Q E s:=by
 unfold letOwnedTupleGo
 cases tg<;>first
  | exact wpAny_pure hQ
  | (cases u<;>first
    | exact wpAny_pure hQ
    | (refine wpAny_bind (wpAny_load ho ?_)
       rw [hc,hd]
       show wpAny M A (if (["enumerate", "zip", "dict_itemiterator", "dict_reverseitemiterator", "odict_iterator", "itertools.zip_longest", "itertools.pairwise"].contains n&&vs[0]? == some (rawInt _))=true then _ else _) Q E s
       rw [if_neg (by intro h; rw [hn,Bool.false_and] at h; cases h)]
       exact wpAny_pure hQ))
noncomputable def Itl (K:PySem.W.Frag) (a:Addr):It :=
 ⟨fun i H=>∃ xs x,gB K H a xs/\xs[i]? = some x,fun i H x H'=>H' = H /\ ∀ xs,gB K H a xs->xs[i]? = some x,fun i H=>∃ xs,gB K H a xs/\xs.length<=i⟩
noncomputable def Itt (K:PySem.W.Frag) (a:Addr):It :=
 ⟨fun i H=>∃ xs x,iP K H a xs/\xs[i]? = some x,fun i H x H'=>H' = H /\ ∀ xs,iP K H a xs->xs[i]? = some x,fun i H=>∃ xs,iP K H a xs/\xs.length<=i⟩
noncomputable def Itr (lo:Int) (n:Nat):It:=⟨fun i _=>i<n,fun i H x H'=>H' = H/\x=.int (lo+i),fun i _=>n<=i⟩
theorem NW {P:Program} {w:World} {K:PySem.W.Frag} {tg:Expr} (a it:Addr):Turn P w K tg (Itl K a) [it] it (fun i h=>h.IsListIter it a i) where
 mem:=by simp
 obj:=fun i h st b hb=>by
  have e:b=it:=by simpa using hb
  subst e
  obtain ⟨o,e,c,d⟩:=st
  exact ⟨o,e,fun v z=>by rw [d] at z; cases z⟩
 keep:=fun i h h' st k=>st.at fun o e=>k it (by simp) o e
 item:=by
  intro X hP hw hK hc i pins s σ H E I hf st hg
  subst hP hw hK
  obtain ⟨xs,x,hq,hx⟩:=hg
  obtain ⟨its,rv,p,hz⟩:=I.list hq
  obtain ⟨u,hu,ru⟩:=rv.get hx
  obtain ⟨f0,f1,f2,f3,f4,f5⟩:=hf it (by simp)
  refine wpAny_pyNext_list_item st p.isList (x:=u) (by simpa using hu) fun h' st' sb=>?_
  have I1:Inv X pins σ H { s with heap:=h' }:=I.turned (t':=s.toks) (fun b o hb e=>(sb.2 b hb).trans e) f0 f1 f3 f4 f5
  obtain ⟨o,e,c,d⟩:=id st'
  exact ⟨u,rfl,R4 (s:={ s with heap:=h' }) e c d (by decide) ⟨x,H,I1,ru,⟨rfl,fun ys hy=>by rw [I.gO hy hq]; exact hx⟩,st',fun b hb=>(hf b hb).1⟩⟩
 done:=by
  intro X hP hw hK hc i pins s σ H E I hf st hg
  subst hP hw hK
  obtain ⟨xs,hq,hx⟩:=hg
  obtain ⟨its,rv,p,hz⟩:=I.list hq
  obtain ⟨f0,f1,f2,f3,f4,f5⟩:=hf it (by simp)
  have hl:=rv.length
  exact wpAny_pyNext_list_end (I.ok.hd hc) st p.isList (by simp; omega) fun h' eb=>⟨rfl,I.turned (t':=s.toks) (fun b o hb e=>eb b o hb e) f0 f1 f3 f4 f5⟩
 self:=fun _ _ _ _ _ st h=>wpAny_pyIter_listiter st h
theorem JK {P:Program} {w:World} {K:PySem.W.Frag} {tg:Expr} (a it:Addr):Turn P w K tg (Itt K a) [it] it (fun i h=>h.IsTupleIter it a i) where
 mem:=by simp
 obj:=fun i h st b hb=>by
  have e:b=it:=by simpa using hb
  subst e
  obtain ⟨o,e,c,d⟩:=st
  exact ⟨o,e,fun v z=>by rw [d] at z; cases z⟩
 keep:=fun i h h' st k=>st.at fun o e=>k it (by simp) o e
 item:=by
  intro X hP hw hK hc i pins s σ H E I hf st hg
  subst hP hw hK
  obtain ⟨xs,x,hq,hx⟩:=hg
  obtain ⟨its,rv,p,hz⟩:=I.tuple hq
  obtain ⟨u,hu,ru⟩:=rv.get hx
  obtain ⟨f0,f1,f2,f3,f4,f5⟩:=hf it (by simp)
  refine wpAny_pyNext_tuple_item st (show s.heap.IsTuple a its.toArray from p) (x:=u) (by simpa using hu) fun h' st' sb=>?_
  have I1:Inv X pins σ H { s with heap:=h' }:=I.turned (t':=s.toks) (fun b o hb e=>(sb.2 b hb).trans e) f0 f1 f3 f4 f5
  obtain ⟨o,e,c,d⟩:=id st'
  exact ⟨u,rfl,R4 (s:={ s with heap:=h' }) e c d (by decide) ⟨x,H,I1,ru,⟨rfl,fun ys hy=>by rw [I.pG hy hq]; exact hx⟩,st',fun b hb=>(hf b hb).1⟩⟩
 done:=by
  intro X hP hw hK hc i pins s σ H E I hf st hg
  subst hP hw hK
  obtain ⟨xs,hq,hx⟩:=hg
  obtain ⟨its,rv,p,hz⟩:=I.tuple hq
  obtain ⟨f0,f1,f2,f3,f4,f5⟩:=hf it (by simp)
  have hl:=rv.length
  exact wpAny_pyNext_tuple_end (I.ok.hd hc) st (show s.heap.IsTuple a its.toArray from p) (by simp; omega) fun h' eb=>⟨rfl,I.turned (t':=s.toks) (fun b o hb e=>eb b o hb e) f0 f1 f3 f4 f5⟩
 self:=fun _ _ _ _ _ st h=>wpAny_pyIter_tupleiter st h
theorem JL {P:Program} {w:World} {K:PySem.W.Frag} {tg:Expr} (it:Addr) (lo:Int) (n:Nat):Turn P w K tg (Itr lo n) [it] it (fun i h=>IsRangeIter h it (lo+(i:Nat)*1) ((n:Int) - (i:Nat)) 1) where
 mem:=by simp
 obj:=fun i h st b hb=>by
  have e:b=it:=by simpa using hb
  subst e
  exact ⟨_,st,fun v z=>by
   have z':Data.fields _=Data.cell v:=z
   cases z'⟩
 keep:=fun i h h' st k=>k it (by simp) _ st
 item:=by
  intro X hP hw hK hc i pins s σ H E I hf st hg
  subst hP hw hK
  obtain ⟨f0,f1,f2,f3,f4,f5⟩:=hf it (by simp)
  have W:=Walks.range (prog:=X.prog) (w:=X.w) (I.ok.hd hc) it lo 1 n
  refine W.item i s _ _ hg st fun v h' tk hv st' kk=>?_
  obtain ⟨t,rfl⟩:=hv
  have I1:Inv X pins σ H { s with heap:=h',toks:=tk }:=I.turned (fun b o hb e=>kk b o (by simpa using hb) e) f0 f1 f3 f4 f5
  refine ⟨_,rfl,R4 (s:={ s with heap:=h',toks:=tk }) (n := "range_iterator") st' rfl rfl (by decide) ⟨.int (lo+i),H,I1,⟨t,?_⟩,⟨rfl,rfl⟩,st',fun b hb=>(hf b hb).1⟩⟩
  rw [Int.mul_one]
 done:=by
  intro X hP hw hK hc i pins s σ H E I hf st hg
  subst hP hw hK
  obtain ⟨f0,f1,f2,f3,f4,f5⟩:=hf it (by simp)
  exact wpAny_pyNext_range_end (I.ok.hd hc) st (by have:n<=i:=hg; omega) fun h' eb=>⟨rfl,I.turned (t':=s.toks) (fun b o hb e=>eb b o hb e) f0 f1 f3 f4 f5⟩
 self:=fun _ _ _ _ _ st h=>wpAny_pyIter_rangeiter st h
end L2
namespace L2
open PySem PySem.Spec PyProof.Rows
section
variable {X:Cx} {tg:Expr}
theorem GY {pins:List (Addr×Obj)} {σ:St} {H:Hp} {s:Shared} {R:It->Hp->Prop} {E:Value->Shared->Prop} {lo hi:Int} {t u v:Tok} {tk:Nat} (I:Inv X pins σ H s) (h1:-(2 ^ 62)<=lo) (h2:lo<2 ^ 62) (h3:-(2 ^ 62)<=hi) (h4:hi<2 ^ 62)
  (q:R (Itr lo (hi - lo).toNat) H):wpAny (model X.prog X.w) X.A (pyIter (.ref s.heap.objs.size)) (PIE X pins σ tg R) E { s with heap:=s.heap.push { cls:=.type "range",data:=.fields #[.int lo t,.int hi u,.int 1 v] },toks:=tk }:=by
 refine wpAny_pyIter_range (IsRange.new ..) (small_one h1 h2 h3 h4) ?_
 have I1:Inv X pins σ H { s with heap:=s.heap.push { cls:=.type "range",data:=.fields #[.int lo t,.int hi u,.int 1 v] },toks:=tk }:=I.kept fun b o e=>Heap.get?_push_of_some _ e
 refine ⟨(s.heap.push { cls:=.type "range",data:=.fields #[.int lo t,.int hi u,.int 1 v] }).objs.size,[(s.heap.push { cls:=.type "range",data:=.fields #[.int lo t,.int hi u,.int 1 v] }).objs.size],_,_,H,rfl,
  I1.kept (t':=tk) fun b o e=>Heap.get?_push_of_some _ e,JL _ lo (hi - lo).toNat,?_,fun b hb=>?_,q⟩
 ·have e1:lo+((0:Nat):Int)*1=lo:=by simp
  have e2:(((hi - lo).toNat:Nat):Int) - ((0:Nat):Int)=Builtin.Range.rangeSize lo hi 1:=by rw [rangeSize_one]; split<;>omega
  show IsRangeIter _ _ (lo+((0:Nat):Int)*1) ((((hi - lo).toNat:Nat):Int) - ((0:Nat):Int)) 1
  rw [e1,e2]
  exact Heap.get?_push_size _ rfl
 ·have e:b=(s.heap.push { cls:=.type "range",data:=.fields #[.int lo t,.int hi u,.int 1 v] }).objs.size:=by simpa using hb
  subst e
  exact I1.JJ (Nat.le_refl _) (I1.hok.fresh (Nat.le_refl _))
noncomputable def aC5 (ta:TA):TI:=fun σ H R=>ta σ H fun vs H1=>∃ j:Int,vs=[.int j] /\ -(2 ^ 62)<=j/\j<2 ^ 62/\R (Itr 0 j.toNat) H1
noncomputable def aC6 (ta:TA):TI:=fun σ H R=>ta σ H fun vs H1=>∃ i j:Int,vs=[.int i,.int j]/\(-(2 ^ 62)<=i/\i<2 ^ 62 /\ -(2 ^ 62)<=j/\j<2 ^ 62)/\R (Itr i (j - i).toNat) H1
theorem NX {a:Expr} {ta:TA} {p pos:Pos} (hg:Gl X "range") (hm:X.mg "range" = none) (ha:PA X [a] ta) (hs:starEach [a] X.env=[(false,eval a X.env)]:=by rfl):PI X tg (.Call (.Name "range" p) [a] [] pos) (aC5 ta):=by
 intro pins s σ H R I h
 refine Call_ (m7 I hg hm boot_range (PyProof.Rows.callWith_type1 (fB (ha pos pins s σ H _ I h) fun us s1 ⟨vs,H1,I1,r1,q1⟩=>?_) hs rfl))
 obtain ⟨j,e,q1,q2,q⟩:=q1
 subst e
 cases r1 with
 | cons r rr =>
  cases rr
  obtain ⟨t,rfl⟩:=r
  exact call_range_1 (GY I1 (by omega) (by omega) q1 q2 (by simpa using q))
theorem NY {a b:Expr} {ta:TA} {p pos:Pos} (hg:Gl X "range") (hm:X.mg "range" = none) (ha:PA X [a,b] ta) (hs:starEach [a,b] X.env=[(false,eval a X.env),(false,eval b X.env)]:=by rfl) (hs2:starEach [b] X.env=[(false,eval b X.env)]:=by rfl) :
  PI X tg (.Call (.Name "range" p) [a,b] [] pos) (aC6 ta):=by
 intro pins s σ H R I h
 refine Call_ (m7 I hg hm boot_range (PyProof.Rows.callWith_type1 (fB (ha pos pins s σ H _ I h) fun us s1 ⟨vs,H1,I1,r1,q1⟩=>?_) (by rw [hs,hs2]) (by rw [hs2]; rfl)))
 obtain ⟨i,j,e,⟨q1,q2,q3,q4⟩,q⟩:=q1
 subst e
 cases r1 with
 | cons r rr =>
  cases rr with
  | cons r' rr =>
   cases rr
   obtain ⟨t,rfl⟩:=r
   obtain ⟨t',rfl⟩:=r'
   exact call_range_2 (GY I1 q1 q2 q3 q4 q)
noncomputable def aGq (wi:TI) (g:TG) (tb:TS):TS:=fun D σ H=>wi σ H fun J H1=>∃ W:Nat->Nat->St->Hp->Prop,(∃ m,W 0 m σ H1) /\ ∀ i m σ H,W i m σ H ->
 (J.stop i H/\D.nx σ H)\/(J.go i H /\ ∃ N:St->Hp->Prop,(∀ σ' H',N σ' H' -> ∃ m',m'<m/\W (i+1) m' σ' H') /\ ∀ x H',J.yld i H x H'->g x σ H' fun σ2 H2=>tb { D with nx:=N,ct:=N,bk:=D.nx } σ2 H2)
noncomputable def yM (fp:List Addr) (h:Heap):List (Addr×Obj):=fp.filterMap fun b=>(h.get? b).map fun o=>(b,o)
theorem m8 {fp:List Addr} {h:Heap} {b:Addr} {o:Obj} (hb:b∈fp) (e:h.get? b=some o):(b,o)∈yM fp h:=List.mem_filterMap.mpr ⟨b,hb,by rw [e]; rfl⟩
theorem NZ {fp:List Addr} {h:Heap} {p:Addr×Obj} (hp:p∈yM fp h):p.1∈fp/\h.get? p.1=some p.2:=by
 obtain ⟨b,hb,e⟩:=List.mem_filterMap.mp hp
 cases q:h.get? b with
 | none=>rw [q] at e; cases e
 | some o =>
  rw [q] at e
  have e':(b,o)=p:=Option.some.inj e
  subst e'
  exact ⟨hb,q⟩
theorem Inv.pinned {pins:List (Addr×Obj)} {σ:St} {H:Hp} {s:Shared} {fp:List Addr} (I:Inv X pins σ H s) (hf:∀ b∈fp,qV X pins H b) (ho:∀ b∈fp,∃ o,s.heap.get? b=some o /\ ∀ v,o.data≠.cell v):Inv X (pins++yM fp s.heap) σ H s :=
 I.MG fun p hp=>(List.mem_append.mp hp).elim (fun z=>I.pin p (List.mem_append_right _ z)) fun z=>by
  obtain ⟨hb,e⟩:=NZ z
  obtain ⟨f0,f1,f2,_⟩:=hf p.1 hb
  obtain ⟨o,e',d⟩:=ho p.1 hb
  rw [e] at e'; cases e'
  exact ⟨e,f0,f1,f2,d⟩
theorem Inv.sF {pins pl:List (Addr×Obj)} {σ:St} {H:Hp} {s:Shared} (I:Inv X (pins++pl) σ H s):Inv X pins σ H s:=I.MG fun p hp=>I.pin p (List.mem_append_right _ (List.mem_append_left _ hp))
theorem aAU {iter:Expr} {body:List Stmt} {wi:TI} {g:TG} {tb:TS} {pos:Pos} (hp:PassesOwn (model X.prog X.w) X.A X.env X.xe) (hc:X.calm=true) (hi:PI X tg iter wi) (hg:PG X tg g) (hb:BR X body tb)
  (hs:∀ x,foldedSetIterable iter X.env x=pure x:=by intro _; rfl):PS X (.For tg iter body [] pos) (aGq wi g tb):=by
 intro pins s σ H D I h
 refine wpAny_For (fB (hi pins s σ H _ I h) fun v s1 h1=>fB h1 fun itv s2 h2=>?_) hs
 obtain ⟨it,fp,tn,J,H2,e,I2,T,st2,f2,W,⟨m0,w0⟩,turn⟩:=h2
 subst e
 -- what stays true of the iterator's objects through the loop
 have stat:∀ {H':Hp},(∀ b∈fp,H' b=none) -> ∀ b∈fp,qV X pins H' b:=fun hn b hb=>⟨hn b hb,(f2 b hb).2⟩
 refine codeAny_forLoop_any (fun n s'=>∃ i σ' H',Inv X pins σ' H' s'/\tn i s'.heap/\(∀ b∈fp,H' b=none)/\W i n σ' H') ?_ m0 ⟨0,σ,H2,I2,st2,fun b hb=>(f2 b hb).1,w0⟩
 rintro n s3 ⟨i,σ3,H3,I3,st3,fr3,w3⟩
 rcases turn i n σ3 H3 w3 with ⟨stop,qn⟩ | ⟨go,N,hN,step⟩
 ·refine wpAny_passesOwn hp (fB (T.done X rfl rfl rfl hc i pins s3 σ3 H3 X.xe I3 (stat fr3) st3 stop) fun r s4 ⟨hr,I4⟩=>?_)
  subst hr
  exact wpAny_execs_nil ⟨σ3,H3,I4,qn⟩
 ·refine wpAny_passesOwn hp (fB (T.item X rfl rfl rfl hc i pins s3 σ3 H3 X.xe I3 (stat fr3) st3 go) fun r s4 ⟨u,hr,h4⟩=>?_)
  subst hr
  refine wpAny_passesOwn hp (fB h4 fun _ s5 ⟨x,H5,I5,r5,y5,st5,fr5⟩=>?_)
  have I5':=I5.pinned (stat fr5) (T.obj _ _ st5)
  refine wpAny_passesOwn hp (fB (hg _ s5 σ3 H5 x u _ I5' r5 (step x H5 y5)) fun _ s6 ⟨σ6,H6,I6,q6⟩=>?_)
  refine wpAny_passesOwn hp (fB (hb _ s6 σ6 H6 _ I6 q6) fun f s7 q7=>?_)
  have again:∀ {σ7:St} {H7:Hp},Inv X (pins++yM fp s5.heap) σ7 H7 s7->N σ7 H7 -> ∃ m,m<n /\ ∃ i σ' H',Inv X pins σ' H' s7/\tn i s7.heap/\(∀ b∈fp,H' b=none)/\W i m σ' H':=fun {σ7 H7} I7 n7=>by
   obtain ⟨m',hm,w7⟩:=hN σ7 H7 n7
   refine ⟨m',hm,i+1,σ7,H7,I7.sF,T.keep _ _ _ st5 fun b hb o e=>(I7.pin (b,o) (List.mem_append_right _ (List.mem_append_right _ (m8 hb e)))).1,fun b hb=>?_,w7⟩
   obtain ⟨o,e,d⟩:=T.obj _ _ st5 b hb
   exact (I7.pin (b,o) (List.mem_append_right _ (List.mem_append_right _ (m8 hb e)))).2.1
  cases f with
  | next=>obtain ⟨σ7,H7,I7,n7⟩:=q7; exact again I7 n7
  | cont=>obtain ⟨σ7,H7,I7,n7⟩:=q7; exact again I7 n7
  | brk=>obtain ⟨σ7,H7,I7,q7⟩:=q7; exact ⟨σ7,H7,I7.sF,q7⟩
  | ret v=>obtain ⟨x7,σ7,H7,I7,r7,q7⟩:=q7; exact ⟨x7,σ7,H7,I7.sF,r7,q7⟩
end
end L2
namespace L2
open PySem PySem.Spec PyProof.Rows
noncomputable abbrev R2:=V->V->Hp->VK->Prop
noncomputable def lO (X:Cx) (f:Value->Value->Sem Value) (r:R2):Prop :=
 ∀ (pins:List (Addr×Obj)) (s:Shared) (σ:St) (H:Hp) (x y:V) (v u:Value) (Q:VK),Inv X pins σ H s->RelV x v->RelV y u->r x y H Q ->
  wpAny (model X.prog X.w) X.A (f v u) (EP X pins σ Q) X.xe s
noncomputable def UnR (X:Cx) (f:Value->Sem Value) (r:V->Hp->VK->Prop):Prop :=
 ∀ (pins:List (Addr×Obj)) (s:Shared) (σ:St) (H:Hp) (x:V) (v:Value) (Q:VK),Inv X pins σ H s->RelV x v->r x H Q ->
  wpAny (model X.prog X.w) X.A (f v) (EP X pins σ Q) X.xe s
noncomputable def jA (X:Cx) (f:Value) (r:List V->Hp->VK->Prop):Prop :=
 ∀ (pins:List (Addr×Obj)) (s:Shared) (σ:St) (H:Hp) (xs:List V) (us:List Value) (Q:VK),Inv X pins σ H s->Vals xs us->r xs H Q ->
  wpAny (model X.prog X.w) X.A (call f us) (EP X pins σ Q) X.xe s
noncomputable def aGt (X:Cx) (r:V->Hp->(Bool->Hp->Prop)->Prop):Prop :=
 ∀ (pins:List (Addr×Obj)) (s:Shared) (σ:St) (H:Hp) (x:V) (v:Value) (Q:Bool->Hp->Prop),Inv X pins σ H s->RelV x v->r x H Q ->
  wpAny (model X.prog X.w) X.A (truthy v) (TP X pins σ Q) X.xe s
noncomputable def tOp (r:R2) (ta tb:TE):TE:=fun σ H Q=>ta σ H fun x H1=>tb σ H1 fun y H2=>r x y H2 Q
noncomputable def tUn (r:V->Hp->VK->Prop) (ta:TE):TE:=fun σ H Q=>ta σ H fun x H1=>r x H1 Q
noncomputable def rI (C:Int->Int->Prop) (g:Int->Int->V):R2:=fun x y H Q=>∃ i j,x=.int i/\y=.int j/\C i j/\Q (g i j) H
noncomputable def N0 (g:Int->Int->V):R2:=fun x y H Q=>∃ i j,x=.int i/\y=.int j/\Q (g i j) H
noncomputable def rU (g:Int->V):V->Hp->VK->Prop:=fun x H Q=>∃ i,x=.int i/\Q (g i) H
section
variable {X:Cx} {a b c:Expr} {ta tb tc:TE} {pos:Pos}
theorem aAV (ha:PE X a ta) (hb:PE X b tb) {pins:List (Addr×Obj)} {s:Shared} {σ:St} {H:Hp} {R:V->V->Hp->Prop} (I:Inv X pins σ H s)
  (h:ta σ H fun x H1=>tb σ H1 fun y H2=>R x y H2) {Q:Value->Shared->Prop} {f:Value->Value->Sem Value}
  (hf:∀ v u s2 x y H2,Inv X pins σ H2 s2->RelV x v->RelV y u->R x y H2->wpAny (model X.prog X.w) X.A (f v u) Q X.xe s2) :
  wpAny (model X.prog X.w) X.A (eval a X.env) (fun v s₁=>wpAny (model X.prog X.w) X.A (eval b X.env) (fun u s₂=>wpAny (model X.prog X.w) X.A (f v u) Q X.xe s₂) X.xe s₁) X.xe s:=by
 refine fB (ha pins s σ H _ I h) fun v s1 hq4=>?_
 obtain ⟨x,H1,I1,r1,q1⟩:=hq4
 refine fB (hb pins s1 σ H1 _ I1 q1) fun u s2 hq5=>?_
 obtain ⟨y,H2,I2,r2,q2⟩:=hq5
 exact hf v u s2 x y H2 I2 r1 r2 q2
theorem R5 {op:Operator} {r:R2} (ho:lO X (binaryOp op) r) (ha:PE X a ta) (hb:PE X b tb):PE X (.BinOp a op b pos) (tOp r ta tb):=by
 intro pins s σ H Q I h
 exact wpAny_BinOp (aAV ha hb I h fun v u s2 x y H2 I2 rx ry q=>ho pins s2 σ H2 x y v u Q I2 rx ry q)
theorem aC9 {op:UnaryOp} {r:V->Hp->VK->Prop} (ho:UnR X (unaryOp op) r) (ha:PE X a ta):PE X (.UnaryOp op a pos) (tUn r ta):=by
 intro pins s σ H Q I h
 exact UnaryOp_ (fB (ha pins s σ H _ I h) fun v s1 ⟨x,H1,I1,r1,q1⟩=>ho pins s1 σ H1 x v Q I1 r1 q1)
theorem opI {f:Value->Value->Sem Value} {C:Int->Int->Prop} {g:Int->Int->Int}
  (rule:∀ (i j:Int) (t u:Tok) (s:Shared) (Q:Value->Shared->Prop) (E:Value->Shared->Prop),C i j->Q (.int (g i j) s.toks) { s with toks:=s.toks+1 }->wpAny (model X.prog X.w) X.A (f (.int i t) (.int j u)) Q E s) :
  lO X f (rI C fun i j=>.int (g i j)):=by
 intro pins s σ H x y v u Q I rx ry h
 obtain ⟨i,j,rfl,rfl,hc,q⟩:=h
 obtain ⟨t,rfl⟩:=rx
 obtain ⟨t',rfl⟩:=ry
 exact rule i j t t' s _ _ hc ⟨.int (g i j),H,I.tok _,⟨_,rfl⟩,q⟩
theorem aCa {f:Value->Value->Sem Value} {g:Int->Int->Int}
  (rule:∀ (i j:Int) (t u:Tok) (s:Shared) (Q:Value->Shared->Prop) (E:Value->Shared->Prop),Q (.int (g i j) s.toks) { s with toks:=s.toks+1 }->wpAny (model X.prog X.w) X.A (f (.int i t) (.int j u)) Q E s) :
  lO X f (N0 fun i j=>.int (g i j)):=by
 intro pins s σ H x y v u Q I rx ry h
 obtain ⟨i,j,rfl,rfl,q⟩:=h
 obtain ⟨t,rfl⟩:=rx
 obtain ⟨t',rfl⟩:=ry
 exact rule i j t t' s _ _ ⟨.int (g i j),H,I.tok _,⟨_,rfl⟩,q⟩
theorem WH {f:Value->Value->Sem Value} {g:Int->Int->Bool}
  (rule:∀ (i j:Int) (t u:Tok) (s:Shared) (Q:Value->Shared->Prop) (E:Value->Shared->Prop),Q (.bool (g i j)) s->wpAny (model X.prog X.w) X.A (f (.int i t) (.int j u)) Q E s) :
  lO X f (N0 fun i j=>.bl (g i j)):=by
 intro pins s σ H x y v u Q I rx ry h
 obtain ⟨i,j,rfl,rfl,q⟩:=h
 obtain ⟨t,rfl⟩:=rx
 obtain ⟨t',rfl⟩:=ry
 exact rule i j t t' s _ _ ⟨.bl (g i j),H,I,rfl,q⟩
noncomputable def aCb (i j:Int):Prop:=0<j/\j<1073741824
noncomputable def aCc (i j:Int):Prop:=0<=j/\j<=1000000/\i.natAbs<2 ^ 64
noncomputable def WJ (i j:Int):Prop:=(-(2 ^ 64)<i/\i<2 ^ 64)\/(-(2 ^ 64)<j/\j<2 ^ 64)
theorem WJ.ok {i j:Int} (h:WJ i j):IntMulOk i j:=by
 rcases h with ⟨h1,h2⟩ | ⟨h1,h2⟩
 ·exact .of_left (intBits_le_64 h1 h2)
 ·exact .of_right (intBits_le_64 h1 h2)
theorem aAW:lO X (binaryOp .Add) (N0 fun i j=>.int (i+j)):=aCa fun _ _ _ _ _ _ _ q=>add_int q
theorem aAX:lO X (binaryOp .Sub) (N0 fun i j=>.int (i - j)):=aCa fun _ _ _ _ _ _ _ q=>sub_int q
theorem WK:lO X (binaryOp .FloorDiv) (rI aCb fun i j=>.int (i / j)):=opI fun i j _ _ _ _ _ hc q=>by
 have h1:(0:Int)<j:=hc.1
 have h2:j<1073741824:=hc.2
 exact floordiv_int (by omega) (by rw [Int.fdiv_eq_ediv_of_nonneg i (by omega)]; exact q) (.inl (PyProof.noPylong_small (by omega)))
theorem aAY:lO X (binaryOp .Mod) (rI (fun _ j=>0<j) fun i j=>.int (i % j)):=opI fun i j _ _ _ _ _ hc q=>by
 have h1:(0:Int)<j:=hc
 exact mod_int' (by omega) (by rw [Int.fmod_eq_emod_of_nonneg i (by omega)]; exact q)
theorem aAZ:lO X (binaryOp .Pow) (rI aCc fun i j=>.int (i ^ j.toNat)):=opI fun _ _ _ _ _ _ _ hc q=>pow_int_small hc.1 hc.2.1 hc.2.2 q
theorem unI {f:Value->Sem Value} {g:Int->Int}
  (rule:∀ (i:Int) (t:Tok) (s:Shared) (Q:Value->Shared->Prop) (E:Value->Shared->Prop),Q (.int (g i) s.toks) { s with toks:=s.toks+1 }->wpAny (model X.prog X.w) X.A (f (.int i t)) Q E s) :
  UnR X f (rU fun i=>.int (g i)):=by
 intro pins s σ H x v Q I rx h
 obtain ⟨i,rfl,q⟩:=h
 obtain ⟨t,rfl⟩:=rx
 exact rule i t s _ _ ⟨.int (g i),H,I.tok _,⟨_,rfl⟩,q⟩
theorem aA0:UnR X (unaryOp .USub) (rU fun i=>.int (-i)):=unI fun _ _ _ _ _ q=>neg_int q
end
noncomputable def aA1:V->V->Bool
 | .non,.non=>true | .non,.int _=>true | .int _,.non=>true | .non,.bl _=>true | .bl _,.non=>true | .non,.str _=>true | .str _,.non=>true
 | .int _,.int _=>true | .bl _,.bl _=>true | .str _,.str _=>true | .NU _,.NU _=>true
 | .int _,.str _=>true | .str _,.int _=>true | .bl _,.str _=>true | .str _,.bl _=>true
 | _,_=>false
noncomputable def rEq:R2:=fun x y H Q=>aA1 x y=true/\Q (.bl (decide (x=y))) H
noncomputable def rNe:R2:=fun x y H Q=>aA1 x y=true/\Q (.bl (!decide (x=y))) H
theorem D7 {i j:Int}:decide (V.int i=V.int j)=(i == j):=by
 rw [Bool.eq_iff_iff]
 simp
theorem JM {i j:Bool}:decide (V.bl i=V.bl j)=(i == j):=by
 rw [Bool.eq_iff_iff]
 simp
theorem D8 {i j:Str}:decide (V.str i=V.str j)=(i == j):=by
 rw [Bool.eq_iff_iff]
 simp
theorem ML {i j:Array UInt8}:decide (V.NU i=V.NU j)=(i.toList == j.toList):=by
 rw [Bool.eq_iff_iff]
 cases i
 cases j
 simp
section
variable {X:Cx} {a b c:Expr} {ta tb tc:TE} {pos:Pos}
theorem cR {pins:List (Addr×Obj)} {σ:St} {H:Hp} {s:Shared} {Q:VK} {k k':Bool} (I:Inv X pins σ H s) (q:Q (.bl k) H) (e:k=k'):EP X pins σ Q (.bool k') s:=by
 subst e
 exact ⟨.bl k,H,I,rfl,q⟩
theorem YS:lO X (compareOp .Eq) rEq:=by
 intro pins s σ H x y v u Q I rx ry h
 obtain ⟨hs,q⟩:=h
 cases x with
 | non =>
  cases rx
  cases y with
  | non=>cases ry; exact PySem.EqNone.eq_none_none (cR I q (by simp))
  | bl j=>cases ry; exact PySem.EqNone.eq_none_bool (cR I q (by simp))
  | int j=>obtain ⟨t',rfl⟩:=ry; exact PySem.EqNone.eq_none_int (cR I q (by simp))
  | str j=>obtain ⟨t',rfl⟩:=ry; exact PySem.EqNone.eq_none_str (cR I q (by simp))
  | _=>exact absurd (show false=true from hs) Bool.false_ne_true
 | bl i =>
  cases rx
  cases y with
  | non=>cases ry; exact PySem.EqNone.eq_bool_none (cR I q (by simp))
  | bl j=>cases ry; exact eq_bool (cR I q JM)
  | str j=>obtain ⟨t',rfl⟩:=ry; exact PySem.EqMixed.eq_bool_str (cR I q (by simp))
  | _=>exact absurd (show false=true from hs) Bool.false_ne_true
 | int i =>
  obtain ⟨t,rfl⟩:=rx
  cases y with
  | non=>cases ry; exact PySem.EqNone.eq_int_none (cR I q (by simp))
  | int j=>obtain ⟨t',rfl⟩:=ry; exact eq_int (cR I q D7)
  | str j=>obtain ⟨t',rfl⟩:=ry; exact PySem.EqMixed.eq_int_str (cR I q (by simp))
  | _=>exact absurd (show false=true from hs) Bool.false_ne_true
 | str i =>
  obtain ⟨t,rfl⟩:=rx
  cases y with
  | non=>cases ry; exact PySem.EqNone.eq_str_none (cR I q (by simp))
  | bl j=>cases ry; exact PySem.EqMixed.eq_str_bool (cR I q (by simp))
  | int j=>obtain ⟨t',rfl⟩:=ry; exact PySem.EqMixed.eq_str_int (cR I q (by simp))
  | str j=>obtain ⟨t',rfl⟩:=ry; exact eq_str (cR I q D8)
  | _=>exact absurd (show false=true from hs) Bool.false_ne_true
 | NU i =>
  obtain ⟨t,rfl⟩:=rx
  cases y with
  | NU j=>obtain ⟨t',rfl⟩:=ry; exact PySem.W.eq_bytes (cR I q ML)
  | _=>exact absurd (show false=true from hs) Bool.false_ne_true
 | _=>cases y<;>exact absurd (show false=true from hs) Bool.false_ne_true
theorem aCd:lO X (compareOp .NotEq) rNe:=by
 intro pins s σ H x y v u Q I rx ry h
 obtain ⟨hs,q⟩:=h
 cases x with
 | non =>
  cases rx
  cases y with
  | non=>cases ry; exact PySem.EqNone.ne_none_none (cR I q (by simp))
  | bl j=>cases ry; exact PySem.EqNone.ne_none_bool (cR I q (by simp))
  | int j=>obtain ⟨t',rfl⟩:=ry; exact PySem.EqNone.ne_none_int (cR I q (by simp))
  | str j=>obtain ⟨t',rfl⟩:=ry; exact PySem.EqNone.ne_none_str (cR I q (by simp))
  | _=>exact absurd (show false=true from hs) Bool.false_ne_true
 | bl i =>
  cases rx
  cases y with
  | non=>cases ry; exact PySem.EqNone.ne_bool_none (cR I q (by simp))
  | bl j=>cases ry; exact ne_bool (cR I q (congrArg not JM))
  | str j=>obtain ⟨t',rfl⟩:=ry; exact PySem.EqMixed.ne_bool_str (cR I q (by simp))
  | _=>exact absurd (show false=true from hs) Bool.false_ne_true
 | int i =>
  obtain ⟨t,rfl⟩:=rx
  cases y with
  | non=>cases ry; exact PySem.EqNone.ne_int_none (cR I q (by simp))
  | int j=>obtain ⟨t',rfl⟩:=ry; exact ne_int (cR I q (congrArg not D7))
  | str j=>obtain ⟨t',rfl⟩:=ry; exact PySem.EqMixed.ne_int_str (cR I q (by simp))
  | _=>exact absurd (show false=true from hs) Bool.false_ne_true
 | str i =>
  obtain ⟨t,rfl⟩:=rx
  cases y with
  | non=>cases ry; exact PySem.EqNone.ne_str_none (cR I q (by simp))
  | bl j=>cases ry; exact PySem.EqMixed.ne_str_bool (cR I q (by simp))
  | int j=>obtain ⟨t',rfl⟩:=ry; exact PySem.EqMixed.ne_str_int (cR I q (by simp))
  | str j=>obtain ⟨t',rfl⟩:=ry; exact ne_str (cR I q (congrArg not D8))
  | _=>exact absurd (show false=true from hs) Bool.false_ne_true
 | NU i =>
  obtain ⟨t,rfl⟩:=rx
  cases y with
  | NU j=>obtain ⟨t',rfl⟩:=ry; exact PySem.W.ne_bytes (cR I q (congrArg not ML))
  | _=>exact absurd (show false=true from hs) Bool.false_ne_true
 | _=>cases y<;>exact absurd (show false=true from hs) Bool.false_ne_true
theorem YT:lO X (compareOp .Lt) (N0 fun i j=>.bl (decide (i<j))):=WH fun _ _ _ _ _ _ _ q=>lt_int q
theorem aCe:lO X (compareOp .LtE) (N0 fun i j=>.bl (decide (i<=j))):=WH fun _ _ _ _ _ _ _ q=>le_int q
theorem YU:lO X (compareOp .Gt) (N0 fun i j=>.bl (decide (j<i))):=WH fun _ _ _ _ _ _ _ q=>gt_int q
theorem aCf:lO X (compareOp .GtE) (N0 fun i j=>.bl (decide (j<=i))):=WH fun _ _ _ _ _ _ _ q=>ge_int q
theorem R6:lO X (compareOp .Is) (fun x y H Q=>y=.non/\Q (.bl (decide (x=.non))) H):=by
 intro pins s σ H x y v u Q I rx ry h
 obtain ⟨rfl,q⟩:=h
 cases ry
 refine is_none_gen (cR I q ?_)
 cases x<;>first
  | (cases rx; rfl)
  | (obtain ⟨t,rfl⟩:=rx; rfl)
theorem lO.or {f:Value->Value->Sem Value} {r r':R2} (h:lO X f r) (h':lO X f r'):lO X f (fun x y H Q=>r x y H Q\/r' x y H Q):=by
 intro pins s σ H x y v u Q I rx ry q
 rcases q with q | q
 ·exact h pins s σ H x y v u Q I rx ry q
 ·exact h' pins s σ H x y v u Q I rx ry q
theorem m9 (b:Expr) {op:CmpOp} (h:op≠.In:=by decide) (h2:op≠.NotIn:=by decide):behindInMarks op b=false:=by
 have e1:(op == CmpOp.In)=false:=by cases op<;>first | rfl | exact absurd rfl h
 have e2:(op == CmpOp.NotIn)=false:=by cases op<;>first | rfl | exact absurd rfl h2
 cases b<;>simp [behindInMarks,e1,e2]
theorem WL {op:CmpOp} {r:R2} (ho:lO X (compareOp op) r) (ha:PE X a ta) (hb:PE X b tb) (hm:behindInMarks op b=false):PE X (.Compare a [op] [b] pos) (tOp r ta tb):=by
 intro pins s σ H Q I h
 exact wpAny_Compare1 (aAV ha hb I h fun v u s2 x y H2 I2 rx ry q=>ho pins s2 σ H2 x y v u Q I2 rx ry q) hm
noncomputable def GZ (t:TE):TT:=fun σ H Q=>t σ H fun x H'=>∃ k,x=.bl k/\Q k H'
theorem WM {op:CmpOp} {r:R2} (ho:lO X (compareOp op) r) (ha:PE X a ta) (hb:PE X b tb) (hm:behindInMarks op b=false):PT X (.Compare a [op] [b] pos) (GZ (tOp r ta tb)):=by
 intro pins s σ H Q I h
 refine wpAny_isTrue_Compare1 (fB (ha pins s σ H _ I h) fun v s1 ⟨x,H1,I1,r1,q1⟩=>fB (hb pins s1 σ H1 _ I1 q1) fun u s2 ⟨y,H2,I2,r2,q2⟩ =>
  fB (ho pins s2 σ H2 x y v u _ I2 r1 r2 q2) fun c s3 ⟨z,H3,I3,r3,k,e,q3⟩=>?_) hm
 subst e
 cases r3
 exact wpAny_truthy_bool ⟨H3,I3,q3⟩
noncomputable def R7 (r r':R2) (ta tb tc:TE):TE:=fun σ H Q=>ta σ H fun x H1=>tb σ H1 fun y H2=>r x y H2 fun z H3=>∃ k,z=.bl k /\
 (if k=true then tc σ H3 fun w' H4=>r' y w' H4 Q else Q (.bl false) H3)
theorem R8 {op op':CmpOp} {r r':R2} (ho:lO X (compareOp op) r) (ho':lO X (compareOp op') r') (ha:PE X a ta) (hb:PE X b tb) (hc:PE X c tc)
  (hm:lastMarks [op,op'] [b,c]=false:=by with_unfolding_all rfl):PT X (.Compare a [op,op'] [b,c] pos) (GZ (R7 r r' ta tb tc)):=by
 intro pins s σ H Q I h
 refine isTrue_chain (fB (ha pins s σ H _ I h) fun v s1 ⟨x,H1,I1,r1,q1⟩=>test_link (fB (hb pins s1 σ H1 _ I1 q1) fun u s2 ⟨y,H2,I2,r2,q2⟩ =>
  fB (ho pins s2 σ H2 x y v u _ I2 r1 r2 q2) fun d s3 ⟨z,H3,I3,r3,k,e,q3⟩=>?_)) hm
 subst e
 cases r3
 refine wpAny_truthy_bool ?_
 cases k with
 | false =>
  obtain ⟨k',e',q'⟩:=q3
  cases e'
  exact ite_ff ⟨H3,I3,q'⟩
 | true =>
  refine ite_tt (test_last (fB (hc pins s3 σ H3 _ I3 q3) fun w' s4 ⟨z',H4,I4,r4,q4⟩=>fB (ho' pins s4 σ H4 y z' u w' _ I4 r2 r4 q4) fun d' s5 ⟨z2,H5,I5,r5,k2,e2,q5⟩=>?_))
  subst e2
  cases r5
  exact wpAny_truthy_bool ⟨H5,I5,q5⟩
noncomputable def aCg (K:PySem.W.Frag) (x:V) (H:Hp) (k:Bool):Prop :=
 match x with
 | .non=>k=false
 | .bl b=>k=b
 | .int i=>k=(i != 0)
 | .str y=>y.length<=sizeLine/\k=((y.length:Int) != 0)
 | .NU y=>y.size<=sizeLine/\k=((y.size:Int) != 0)
 | .ref p=>(∃ xs,gB K H p xs/\k=!xs.isEmpty)\/(∃ xs,iP K H p xs/\k=!xs.isEmpty) \/ ∃ kvs,H p=some (.dK kvs)/\k=!kvs.isEmpty
 | _=>False
theorem JN {κ:Type} {kvs:List (κ×V)} {vs:List (κ×Value)} (r:KV kvs vs):(!vs.isEmpty)=!kvs.isEmpty:=by
 cases r<;>rfl
theorem nA {xs:List V} {its:List Value} (r:Vals xs its):(!its.toArray.isEmpty)=!xs.isEmpty:=by
 cases r<;>simp
theorem yN:(sizeLine:Nat)<2 ^ 63:=by rw [sizeLine_eq]; decide
theorem aA2:aGt X (fun x H Q=>∃ k,aCg X.K x H k/\Q k H):=by
 intro pins s σ H x v Q I rx h
 obtain ⟨k,e,q⟩:=h
 have hl:=yN
 have hs:sizeLine=16777216:=sizeLine_eq
 cases x with
 | non =>
  cases rx
  have e':k=false:=e
  subst e'
  exact truthy_none ⟨H,I,q⟩
 | bl b =>
  cases rx
  have e':k=b:=e
  subst e'
  exact wpAny_truthy_bool ⟨H,I,q⟩
 | int i =>
  obtain ⟨t,rfl⟩:=rx
  have e':k=(i != 0):=e
  subst e'
  exact PySem.P.truthy_int ⟨H,I,q⟩
 | str y =>
  obtain ⟨t,rfl⟩:=rx
  obtain ⟨hy,e'⟩:y.length<=sizeLine/\k=((y.length:Int) != 0):=e
  subst e'
  exact PySem.P.truthy_str (by omega) ⟨H,I.tok _,q⟩
 | NU y =>
  obtain ⟨t,rfl⟩:=rx
  obtain ⟨hy,e'⟩:y.size<=sizeLine/\k=((y.size:Int) != 0):=e
  subst e'
  exact PySem.W.truthy_bytes (by omega) ⟨H,I.tok _,q⟩
 | ref p =>
  cases rx
  have e':(∃ xs,gB X.K H p xs/\k=!xs.isEmpty)\/(∃ xs,iP X.K H p xs/\k=!xs.isEmpty) \/ ∃ kvs,H p=some (.dK kvs)/\k=!kvs.isEmpty:=e
  rcases e' with ⟨xs,hx,e'⟩ | ⟨xs,hx,e'⟩ | ⟨kvs,hx,e'⟩
  ·subst e'
   obtain ⟨its,r,pl,hz⟩:=I.list hx
   have hlen:=r.length
   exact wpAny_truthy_list pl.isList (by simp only [List.size_toArray]; omega) ⟨H,I.tok _,by rw [nA r]; exact q⟩
  ·subst e'
   obtain ⟨its,r,pl,hz⟩:=I.tuple hx
   have hlen:=r.length
   exact truthy_tuple pl (by simp only [List.size_toArray]; omega) ⟨H,I.tok _,by rw [nA r]; exact q⟩
  ·subst e'
   obtain ⟨hz,hS,vs,r,m⟩:kvs.length<=sizeLine/\(p == sysModules)=false /\ ∃ vs,KV kvs vs/\s.heap.DictOf (bM X.prog X.w) p vs:=I.hok p _ hx
   have hlen:kvs.length=vs.length:=Paired.length r
   exact wpAny_truthy_dict hS m (by omega) ⟨H,I.tok _,by rw [JN r]; exact q⟩
 | _=>exact (show False from e).elim
theorem R9 (ha:PE X a ta) (he:∀ whole,isTrue a X.env whole=(do let v <- whole; standAt a.pos; holding [v] (truthy v))) :
  PT X a (fun σ H Q=>ta σ H fun x H'=>∃ k,aCg X.K x H' k/\Q k H'):=by
 intro pins s σ H Q I h
 exact isTrue_plain (fB (ha pins s σ H _ I h) fun v s1 ⟨x,H1,I1,r1,q1⟩=>aA2 pins s1 σ H1 x v Q I1 r1 q1) (he _)
theorem JO:lO X (binaryOp .Add) (fun x y H Q=>∃ i j,x=.str i/\y=.str j/\i.length+j.length<=sizeLine/\Q (.str (i++j)) H):=by
 intro pins s σ H x y v u Q I rx ry h
 obtain ⟨i,j,rfl,rfl,hz,q⟩:=h
 obtain ⟨t,rfl⟩:=rx
 obtain ⟨t',rfl⟩:=ry
 exact add_str (fun t' tk=>⟨.str (i++j),H,I.tok _,⟨_,rfl⟩,q⟩) hz
theorem vals1 {x:V} {us:List Value} (r:Vals [x] us):∃ u,us=[u]/\RelV x u:=by
 cases r with
 | cons r1 r2=>cases r2; exact ⟨_,rfl,r1⟩
theorem vals2 {x y:V} {us:List Value} (r:Vals [x,y] us):∃ u w',us=[u,w']/\RelV x u/\RelV y w':=by
 cases r with
 | cons r1 r2 =>
  cases r2 with
  | cons r3 r4=>cases r4; exact ⟨_,_,rfl,r1,r3⟩
theorem N2:jA X (.type "int") (fun xs H Q=>(∃ i,xs=[.int i]/\Q (.int i) H) \/ ∃ k,xs=[.bl k]/\Q (.int (if k then 1 else 0)) H):=by
 intro pins s σ H xs us Q I r h
 rcases h with ⟨i,rfl,q⟩ | ⟨k,rfl,q⟩
 ·obtain ⟨u,rfl,t,rfl⟩:=vals1 r
  exact call_int_int ⟨.int i,H,I,⟨_,rfl⟩,q⟩
 ·obtain ⟨u,rfl,r1⟩:=vals1 r
  cases r1
  exact call_int_bool ⟨.int (if k then 1 else 0),H,I.tok _,⟨_,rfl⟩,q⟩
end
end L2
namespace L2
open PySem PySem.Spec PyProof.Rows
structure aA3 (h:Heap) (x dx C:Addr) (mA:Str->Option Value):Prop where
 obj:h.get? x=some (PySem.W.instObj C dx)
 ns:h.Ns1 dx mA
 ne:dx≠x
theorem N3 {h:Heap} {dx:Addr} {mA:Str->Option Value} (n:h.Ns1 dx mA):∃ od,h.get? dx=some od /\ ∀ name,PySem.W.lookIn name od=some (mA name):=by
 obtain ⟨o,es,ep,ho,hd,hk,_,hm⟩:=n
 refine ⟨o,ho,fun name=>?_⟩
 have e:=hm name
 unfold nsFind findBy at e
 rw [<- Array.find?_toList] at e
 unfold PySem.W.lookIn
 rw [hd]
 dsimp only
 split
 ·rename_i y q
  rw [q] at e
  exact congrArg some e
 ·rename_i q
  rw [q] at e
  have a:es.toList.any (·.refKey)=false:=by
   rw [List.any_eq_false]
   intro y hy
   obtain ⟨z,t,hkey⟩:=hk y (Array.mem_toList_iff.mp hy)
   simp [DictEntry.refKey,hkey]
  have a':¬ es.toList.any (·.refKey)=true:=by rw [a]; exact Bool.false_ne_true
  rw [if_neg a']
  exact congrArg some e
theorem aA3.look {h:Heap} {x dx C:Addr} {mA:Str->Option Value} (I:aA3 h x dx C mA):∃ od,PySem.W.InstAt h x (PySem.W.instObj C dx) C (some od) /\ ∀ name,PySem.W.lookIn name od=some (mA name) :=
 let ⟨od,ho,hl⟩:=N3 I.ns
 ⟨od,⟨I.obj,rfl,rfl,ho⟩,hl⟩
section
variable {prog:Program} {w:World} {A:Around} {E:Value->Shared->Prop} {s:Shared} {K:PySem.W.Frag} {x dx C f:Addr} {mA:Str->Option Value} {name:Str} {v:Value}
end
theorem qT.some_of {v:V} {o:Option Value} (r:qT (some v) o):∃ u,o=some u/\RelV v u:=by
 cases o with
 | none=>exact (show False from r).elim
 | some u=>exact ⟨u,rfl,r⟩
section
variable {P:Program} {w:World} {H H':Hp} {h h':Heap} {a C dx:Addr} {fs fs':List (Str×V)}
theorem WN (hok:qA P w H h) (e:H a=some (.ins C dx fs)):∃ mA,aA3 h a dx C mA/\(∀ f,qT (fs.lookup f) (mA f))/\PySem.Within mA (fs.map (·.1))/\fs.length<=1000/\H dx=some (.own a):=by
 obtain ⟨d,z,ne,ob,mA,n,r,q⟩:=(show e9 P w H h a (.ins C dx fs) from hok a _ e)
 exact ⟨mA,⟨ob,n,ne⟩,r,q,z,d⟩
end
structure Cls (K:PySem.W.Frag) (C:Addr):Prop where
 pg:PySem.W.plainGet K C Str.empty=true
 hd:PySem.W.hasDictIn K C=true
 po:PySem.W.plainOver K C=true
 sa:PySem.W.findIn K (.ref C) "__setattr__" = some (some (.builtin "object.__setattr__"))
theorem Cls.get {K:PySem.W.Frag} {C:Addr} (c:Cls K C) (f:Str):PySem.W.plainGet K C f=true:=c.pg
structure Con (K:PySem.W.Frag) (C:Addr) (f:Str) (v:V) (u:Value):Prop where
 at_:PySem.W.findIn K (.ref C) f=some (some u)
 rel:RelV v u
 get:PySem.W.specialIn K u "__get__" = some none
 cp:PySem.W.copiedNames.contains f=false
section
variable {X:Cx} {pins:List (Addr×Obj)} {σ:St} {H:Hp} {s:Shared} {a C dx:Addr} {fs:List (Str×V)} {f:Str} {v:V} {A:Around} {E:Value->Shared->Prop}
end
section
variable {X:Cx} {o e value:Expr} {f:Str} {pos pos' tpos:Pos} {ta tv:TE}
end
section
variable {X:Cx} {pins:List (Addr×Obj)} {σ:St} {H:Hp} {s:Shared} {A:Around} {E:Value->Shared->Prop} {Q:Value->Shared->Prop} {c:Value} {b:Bool}
inductive sG (K:PySem.W.Frag) (H:Hp):V->Value->Prop where
 | non:sG K H .non (.type "NoneType")
 | bl (x:Bool):sG K H (.bl x) (.type "bool")
 | int (i:Int):sG K H (.int i) (.type "int")
 | str (x:Str):sG K H (.str x) (.type "str")
 | flt (x:UInt64):sG K H (.flt x) (.type "float")
 | lst {a:Addr} {xs:List V} (e:H a=some (.lst xs)):sG K H (.ref a) (.type "list")
 | IH {a:Addr} {o:Obj} {xs:List V} (e:H a=some (.IH o (.lst xs))):sG K H (.ref a) (.type "list")
 | tup {a:Addr} {xs:List V} (e:H a=some (.tup xs)):sG K H (.ref a) (.type "tuple")
 | dK {a:Addr} {kvs:List (Key×V)} (e:H a=some (.dK kvs)):sG K H (.ref a) (.type "dict")
 | dT {a:Addr} {kvs:List (List Key×V)} (e:H a=some (.dT kvs)):sG K H (.ref a) (.type "dict")
 | ins {a C dx:Addr} {fs:List (Str×V)} (e:H a=some (.ins C dx fs)) (cl:Cls K C) (ha:PySem.W.findIn K (.ref C) "__class__" = some (some (.builtin "object.__class__")))
   (hn:PySem.W.specialIn K (.builtin "object.__class__") "__get__" = some (some (.builtin "getset_descriptor.__get__"))) (htk:PySem.W.takesIn K (.builtin "object.__class__")=some true)
   (hm:PySem.W.mroIn K C (.type "object")=some true):sG K H (.ref a) (.ref C)
theorem N4 {x:V} {u t:Value} (I:Inv X pins σ H s) (rx:RelV x u) (ty:sG X.K H x t) (e:PySem.W.kitOne X.K t c=some b) (h:∀ tk,Q (.bool b) { s with toks:=tk }) :
  wpAny (model X.prog X.w) A (call (.builtin "isinstance") [u,c]) Q E s:=by
 cases ty with
 | non=>cases (show u=Value.none from rx); exact PySem.W.kia_one PySem.W.kitx_none I.D6 True.intro e (fun z=>nomatch z) h
 | bl y=>cases (show u=Value.bool y from rx); exact PySem.W.kia_one PySem.W.kitx_bool I.D6 True.intro e (fun z=>nomatch z) h
 | int i=>obtain ⟨t,q⟩:=(show ∃ t,u=Value.int i t from rx); cases q; exact PySem.W.kia_one PySem.W.kitx_int I.D6 True.intro e (fun z=>nomatch z) h
 | str y=>obtain ⟨t,q⟩:=(show ∃ t,u=Value.str y t from rx); cases q; exact PySem.W.kia_one PySem.W.kitx_str I.D6 True.intro e (fun z=>nomatch z) h
 | flt y=>obtain ⟨t,q⟩:=(show ∃ t,u=Value.float y t from rx); cases q; exact PySem.W.kia_one PySem.W.kitx_float I.D6 True.intro e (fun z=>nomatch z) h
 | @lst a xs ea =>
  cases (show u=Value.ref a from rx)
  obtain ⟨_,_,n,_,h1⟩:=(show e9 X.prog X.w H s.heap a (.lst xs) from I.hok a _ ea)
  exact PySem.W.kia_one PySem.W.kitx_list I.D6 ⟨_,h1,rfl⟩ e (fun z=>nomatch z) h
 | @IH a ob xs ea =>
  cases (show u=Value.ref a from rx)
  obtain ⟨_,_,_,n,_,h1⟩:=(show e9 X.prog X.w H s.heap a (.IH ob (.lst xs)) from I.hok a _ ea)
  exact PySem.W.kia_one PySem.W.kitx_list I.D6 ⟨_,h1,rfl⟩ e (fun z=>nomatch z) h
 | @tup a xs ea =>
  cases (show u=Value.ref a from rx)
  obtain ⟨_,_,_,p⟩:=(show e9 X.prog X.w H s.heap a (.tup xs) from I.hok a _ ea)
  obtain ⟨o,h1,h2,_⟩:=p
  exact PySem.W.kia_one PySem.W.kitx_tuple I.D6 ⟨o,h1,h2⟩ e (fun z=>nomatch z) h
 | @dK a kvs ea =>
  cases (show u=Value.ref a from rx)
  obtain ⟨_,_,vs,_,p⟩:=(show e9 X.prog X.w H s.heap a (.dK kvs) from I.hok a _ ea)
  obtain ⟨o,es,ep,h1,h2,_⟩:=p
  exact PySem.W.kia_one PySem.W.kitx_dict I.D6 ⟨o,h1,h2.1⟩ e (fun z=>nomatch z) h
 | @dT a kvs ea =>
  cases (show u=Value.ref a from rx)
  obtain ⟨_,_,xs,_,o,es,ep,h1,h2,_⟩:=(show e9 X.prog X.w H s.heap a (.dT kvs) from I.hok a _ ea)
  exact PySem.W.kia_one PySem.W.kitx_dict I.D6 ⟨o,h1,h2.1⟩ e (fun z=>nomatch z) h
 | @ins a C dx fs ea cl ha hn htk hm =>
  cases (show u=Value.ref a from rx)
  obtain ⟨mA,O,_⟩:=WN I.hok ea
  obtain ⟨od,J,_⟩:=O.look
  exact PySem.W.kia_one (PySem.W.kitx_own (cl.get _) cl.hd ha hn htk hm) I.D6 J e (fun z=>nomatch z) h
end
end L2
namespace L2
open PySem PySem.Spec PyProof.Rows
structure kU (k:Nat) (A:Around):Prop where
 hd:A.handled=none
 dp:A.depth+3*k+5<recursionLimit
 un:A.units+16*k+200<cLine
theorem kU.mono {j k:Nat} {A:Around} (r:kU k A) (h:j<=k):kU j A:=⟨r.hd,by have:=r.dp; omega,by have:=r.un; omega⟩
theorem kU.deeper {k:Nat} {A:Around} (r:kU (k+1) A) (env:Env):kU k (A.deeper env) :=
 ⟨r.hd,by have:=r.dp; show A.depth+1+3*k+5<_; omega,by have:=r.un; show A.units+3+16*k+200<_; omega⟩
theorem kU.depth {k:Nat} {A:Around} (r:kU k A):A.depth<recursionLimit:=by have:=r.dp; omega
noncomputable def aCh:TA:=fun _ H Q=>Q [] H
noncomputable def YV (ta:TE) (tr:TA):TA:=fun σ H Q=>ta σ H fun x H1=>tr σ H1 fun xs H2=>Q (x::xs) H2
section
variable {X:Cx} {e:Expr} {es:List Expr} {te:TE} {t:TA} {pos:Pos}
theorem qW:PA X [] aCh:=fun _ _ _ _ H Q I h=>Calls.spliced_nil ⟨[],H,I,.nil,h⟩
theorem jS (ha:PE X e te) (hr:PA X es t) (hs:starEach (e::es) X.env=(false,eval e X.env)::starEach es X.env:=by rfl):PA X (e::es) (YV te t):=by
 intro pos pins s σ H Q I h
 rw [hs]
 show wpAny _ _ (spliced ((false,eval e X.env)::backTo pos (starEach es X.env))) _ _ s
 refine Calls.spliced_cons (fB (ha pins s σ H _ I h) fun u s1 ⟨x,H1,I1,r1,q1⟩=>?_)
 exact fB (hr pos pins s1 σ H1 _ I1 q1) fun us s2 hq6=>by obtain ⟨xs,H2,I2,r2,q2⟩:=hq6; exact ⟨x::xs,H2,I2,.cons r1 r2,q2⟩
noncomputable def aGu (t:TA):TE:=fun σ H Q=>t σ H fun xs H1=>xs.length<=sizeLine /\ ∀ p,H1 p=none->Q (.ref p) (upd H1 p (.tup xs))
noncomputable def aGv (t:TA):TE:=fun σ H Q=>t σ H fun xs H1=>xs.length<=sizeLine /\ ∀ p,H1 p=none->Q (.ref p) (upd H1 p (.lst xs))
theorem aA4 {x1} (h:PA X es t):PE X (.Tuple es x1 pos) (aGu t):=by
 intro pins s σ H Q I hq
 refine wpAny_Tuple_spliced (fB (h pos pins s σ H _ I hq) fun us s1 ⟨xs,H1,I1,r,z,q⟩=>⟨by rw [<- r.length]; exact z,?_⟩)
 have hf:H1 s1.heap.objs.size=none:=I1.hok.fresh (Nat.le_refl _)
 refine ⟨.ref s1.heap.objs.size,upd H1 s1.heap.objs.size (.tup xs),I1.laid (t':=s1.toks) (fun b u e=>Heap.get?_push_of_some _ e) (Nat.le_refl _) ?_,rfl,q _ hf⟩
 exact ⟨z,us,r,⟨_,Heap.get?_push_size _ rfl,rfl,_,rfl⟩⟩
theorem aA5 (h:PA X es t):PE X (.List es pos) (aGv t):=by
 intro pins s σ H Q I hq
 refine wpAny_List_spliced (fB (h pos pins s σ H _ I hq) fun us s1 ⟨xs,H1,I1,r,z,q⟩=>⟨by rw [<- r.length]; exact z,?_⟩)
 have hf:H1 s1.heap.objs.size=none:=I1.hok.fresh (Nat.le_refl _)
 refine ⟨.ref s1.heap.objs.size,upd H1 s1.heap.objs.size (.lst xs),I1.laid (t':=s1.toks) (fun b u e=>Heap.get?_push_of_some _ e) (Nat.le_refl _) ?_,rfl,q _ hf⟩
 exact ⟨z,us,0,r,Heap.get?_push_size _ rfl⟩
end
noncomputable abbrev Sp:=List V->Hp->VK->XK->Prop
noncomputable abbrev PY:=List Env->Hp->Shared->XK->Value->Shared->Prop
structure WP (P:Program) (w:World) (K:PySem.W.Frag) (mg:Str->Option Value) (base:Heap) (A:Around) (outer:List Env) (s:Shared) (H:Hp):Prop where
 frames:A.frames=some outer
 mod:Mod K mg base
 bs:∀ b o,base.get? b=some o->s.heap.get? b=some o/\H b=none
 V6:base.objs.size<=s.heap.objs.size
 yJ:s.heap.FunFrames base outer
 frf:∀ b∈frs outer,H b=none
 hok:qA P w H s.heap
 bare:AllBare s.gens
noncomputable def CE (outer:List Env) (P:Program) (w:World) (H:Hp) (s:Shared) (Q:VK) (u:Value) (s':Shared):Prop :=
 ∃ v H',s'.os=s.os/\AllBare s'.gens/\Un (frs outer) [] H H' s.heap s'.heap/\qA P w H' s'.heap/\RelV v u/\Q v H'
noncomputable def CR (CX:PY) (outer:List Env) (P:Program) (w:World) (H:Hp) (s:Shared) (Q:VK) (E:XK) (r:Result) (s':Shared):Prop :=
 match r with
 | .ok (.ret u)=>CE outer P w H s Q u s'
 | .ok _=>False
 | .error e=>CX outer H s E e s'
structure aQ (P:Program) (w:World) (K:PySem.W.Frag) (mg:Str->Option Value) (base:Heap) (CX:PY) (k:Nat) (f:Addr) (fd:FuncData) (ps:List Str) (sp:Sp):Prop where
 len:∀ vs H Q E,sp vs H Q E->vs.length=ps.length
 run:∀ (A:Around) (outer:List Env) (s:Shared) (H:Hp) (args:Args) (us:List Value) (vs:List V) (Q:VK) (E:XK),kU k A->WP P w K mg base A outer s H->BindsTo s fd args (ps.zip us)->Vals vs us->sp vs H Q E ->
  codeAny (model P w) A (.call (.ref f) args) (CR CX outer P w H s Q E) s
theorem aQ.mono {P:Program} {w:World} {K:PySem.W.Frag} {mg:Str->Option Value} {base:Heap} {CX:PY} {j k:Nat} {f:Addr} {fd:FuncData} {ps:List Str} {sp:Sp} (F:aQ P w K mg base CX j f fd ps sp) (h:j<=k) :
  aQ P w K mg base CX k f fd ps sp:=⟨F.len,fun A outer s H args us vs Q E hr=>F.run A outer s H args us vs Q E (hr.mono h)⟩
section
variable {X:Cx} {pins:List (Addr×Obj)} {σ:St} {H:Hp} {s s':Shared}
theorem Inv.env0 (I:Inv X pins σ H s):WP X.prog X.w X.K X.mg X.base X.A X.stack s H :=
 ⟨I.ok.frames,I.ok.mod,I.bs,Nat.le_trans I.ok.V6 I.sz,I.stack,I.MF,I.hok,I.bare⟩
theorem Inv.after {Q:VK} {u:Value} (I:Inv X pins σ H s) (h:CE X.stack X.prog X.w H s Q u s'):EP X pins σ Q u s':=by
 obtain ⟨v,H',os,bare,un,hok,r,q⟩:=h
 obtain ⟨hh,g,d,t,os'⟩:=s'
 obtain rfl:os' = s.os:=os
 exact ⟨v,H',I.call (h':=hh) (g':=g) (d':=d) (t':=t) (ch:=[]) un hok bare (fun b z=>absurd z (by simp)),r,q⟩
end
noncomputable def YW (sp:Sp) (YX:List V) (E:XK) (t:TA):TE:=fun σ H Q=>t σ H fun vs H1=>sp (vs++YX) H1 Q E
noncomputable def Binds (K:PySem.W.Frag) (fd:FuncData) (ps:List Str) (ds:List Value):Prop :=
 ∀ (s:Shared) (us:List Value),K.In s.heap->(us++ds).length=ps.length->BindsTo s fd ⟨us,[]⟩ (ps.zip (us++ds))
theorem Binds.all {K:PySem.W.Frag} {fd:FuncData} {ps:List Str} (h:∀ us:List Value,us.length=ps.length->bindArgs fd ⟨us,[]⟩=pure (ps.zip us)):Binds K fd ps []:=fun s us _ hl=>by
 rw [List.append_nil] at hl ⊢
 exact .of_eq (h us hl)
noncomputable def Passes (CX:PY) (X:Cx) (E:XK):Prop:=∀ (pins:List (Addr×Obj)) (σ:St) (H:Hp) (s:Shared) (e:Value) (s':Shared),Inv X pins σ H s->CX X.stack H s E e s'->X.xe e s'
section
variable {X:Cx} {CX:PY} {k:Nat} {f C:Addr} {fd:FuncData} {ps:List Str} {sp:Sp} {YX:List V} {ds:List Value} {E:XK} {x m:Str} {p pos apos:Pos} {e o:Expr} {es:List Expr} {ta:TE} {t:TA}
theorem aA6 {pins:List (Addr×Obj)} {σ:St} {H:Hp} {s:Shared} {Q:VK} {us:List Value} {vs:List V} (F:aQ X.prog X.w X.K X.mg X.base CX k f fd ps sp) (hr:kU k X.A) (hb:Binds X.K fd ps ds) (hd:Vals YX ds) (hx:Passes CX X E)
  (I:Inv X pins σ H s) (r:Vals vs us) (h:sp (vs++YX) H Q E):wpAny (model X.prog X.w) X.A (call (.ref f) us) (EP X pins σ Q) X.xe s:=by
 have r2:Vals (vs++YX) (us++ds):=r.append hd
 have hl:(us++ds).length=ps.length:=by rw [<- r2.length]; exact F.len _ _ _ _ h
 refine wpAny_call (codeAny_mono (F.run X.A X.stack s H ⟨us,[]⟩ (us++ds) (vs++YX) Q E hr I.env0 (hb s us I.D6 hl) r2 h) fun r s' hq=>?_)
 cases r with
 | error e=>exact hx pins σ H s e s' I hq
 | ok fl =>
  cases fl with
  | ret u=>exact I.after hq
  | next=>exact False.elim hq
  | brk=>exact False.elim hq
  | cont=>exact False.elim hq
theorem D9 (F:aQ X.prog X.w X.K X.mg X.base CX k f fd ps sp) (hr:kU k X.A) (hg:Gl X x) (hm:X.mg x=some (.ref f)) (hk:PySem.W.keepIn X.K (.ref f)=true) (hb:Binds X.K fd ps ds) (hd:Vals YX ds) (hx:Passes CX X E)
  (ha:PA X (e::es) t) (hdb:(x == ("__debug__" : Str))=false:=by decide) (he:starEach (e::es) X.env=(false,eval e X.env)::starEach es X.env:=by rfl) (hpl:(backTo pos (starEach es X.env)).any (·.1)=false:=by rfl) :
  PE X (.Call (.Name x p) (e::es) [] pos) (YW sp YX E t):=by
 intro pins s σ H Q I h
 refine wpAny_Call_Name_kw (MI I hg hm ?_ hdb)
 refine PySem.W.callWith_K (h₀:=X.base) I.ok.mod.kin hk (fB (ha pos pins s σ H _ I h) fun us s1 ⟨vs,H1,I1,r,q⟩=>⟨I1.D6,?_⟩) he hpl
 exact aA6 F hr hb hd hx I1 r q
end
section
variable {X:Cx} {CX:PY} {k:Nat} {f C:Addr} {fd:FuncData} {ps ks:List Str} {sp:Sp} {E:XK} {x m:Str} {p pos apos kpos:Pos} {e o:Expr} {es:List Expr} {kws:List Keyword} {te ta:TE} {t tk:TA} {nm:Option Str}
structure aGw (K:PySem.W.Frag) (fd:FuncData) (ps ks:List Str) (g:List Value->List Value->List Value) (gV:List V->List V->List V):Prop where
 to:∀ (s:Shared) (us ws:List Value),K.In s.heap->(g us ws).length=ps.length->BindsTo s fd ⟨us,ks.zip ws⟩ (ps.zip (g us ws))
 rel:∀ {vs:List V} {us:List Value} {zs:List V} {ws:List Value},Vals vs us->Vals zs ws->Vals (gV vs zs) (g us ws)
variable {g:List Value->List Value->List Value} {gV:List V->List V->List V}
end
structure bB (N P:List Str) (sc:Scope):Prop where
 kind:sc.kind=.function
 co:sc.isCoroutine=false
 gen:sc.isGenerator=false
 nd:N.Nodup
 pre:N.take P.length=P
 par:∀ x∈P,sc.names.lookup x=some .local\/sc.names.lookup x=some .cell
 aA7:∀ y∈sc.names,y.2≠.free
theorem BS {kindOf:Str->Option NameKind} {x:Str}:∀ {binds:List (Str×Value)} {m:Str->Option Value},(∀ v,(x,v)∉binds)->bindL kindOf binds m x=m x
 | [],_,_=>rfl
 | (n,v)::r,m,h=>by
  unfold bindL
  rw [BS fun w hw=>h w (List.mem_cons_of_mem _ hw)]
  split
  ·have:x≠n:=by rintro rfl; exact h v List.mem_cons_self
   simp [this]
  ·rfl
theorem BU {kindOf:Str->Option NameKind} {x:Str}:∀ {binds:List (Str×Value)} {m:Str->Option Value},(∀ v,(x,v)∉binds)->bindC kindOf binds m x=m x
 | [],_,_=>rfl
 | (n,v)::r,m,h=>by
  unfold bindC
  rw [BU fun w hw=>h w (List.mem_cons_of_mem _ hw)]
  split
  ·rfl
  ·have:x≠n:=by rintro rfl; exact h v List.mem_cons_self
   simp [this]
theorem BV {kindOf:Str->Option NameKind} {x:Str} {v:Value}:∀ {P:List Str} {vs:List Value} {i:Nat} {m:Str->Option Value},P.Nodup->P[i]? = some x->vs[i]? = some v->kindOf x=some .local ->
  bindL kindOf (P.zip vs) m x=some v
 | [],_,_,_,_,h,_,_=>by simp at h
 | _::_,[],_,_,_,_,h,_=>by simp at h
 | p::P,w::vs,0,m,nd,h1,h2,hk=>by
  simp at h1 h2; subst h1; subst h2
  show bindL kindOf ((p,w)::P.zip vs) m p=_
  unfold bindL
  rw [BS fun v hv=>(List.nodup_cons.mp nd).1 (List.of_mem_zip hv).1,if_pos hk]
  simp
 | p::P,w::vs,i+1,m,nd,h1,h2,hk=>by
  show bindL kindOf ((p,w)::P.zip vs) m x=_
  unfold bindL
  exact BV (i:=i) (List.nodup_cons.mp nd).2 (by simpa using h1) (by simpa using h2) hk
theorem BW {kindOf:Str->Option NameKind} {x:Str} {v:Value}:∀ {P:List Str} {vs:List Value} {i:Nat} {m:Str->Option Value},P.Nodup->P[i]? = some x->vs[i]? = some v->kindOf x≠some .local ->
  bindC kindOf (P.zip vs) m x=some v
 | [],_,_,_,_,h,_,_=>by simp at h
 | _::_,[],_,_,_,_,h,_=>by simp at h
 | p::P,w::vs,0,m,nd,h1,h2,hk=>by
  simp at h1 h2; subst h1; subst h2
  show bindC kindOf ((p,w)::P.zip vs) m p=_
  unfold bindC
  rw [BU fun v hv=>(List.nodup_cons.mp nd).1 (List.of_mem_zip hv).1,if_neg hk]
  simp
 | p::P,w::vs,i+1,m,nd,h1,h2,hk=>by
  show bindC kindOf ((p,w)::P.zip vs) m x=_
  unfold bindC
  exact BW (i:=i) (List.nodup_cons.mp nd).2 (by simpa using h1) (by simpa using h2) hk
noncomputable def start (N:List Str) (vs:List V):St:=vs.map some++List.replicate (N.length - vs.length) none
noncomputable def EA (CX:PY) (P:Program) (w:World) (K:PySem.W.Frag) (mg:Str->Option Value) (base:Heap) (N:List Str) (qual:Str) (scope:Scope) (f:Addr) (cd:Value) (A:Around) (outer:List Env) (s:Shared) (H:Hp) (E:XK):Cx where
 prog:=P
 w:=w
 K:=K
 mg:=mg
 base:=base
 A:=A.deeper (envOfC qual scope s.heap.objs.size f cd)
 N:=N
 s₀:=s
 H₀:=H
 env:=envOfC qual scope s.heap.objs.size f cd
 outer:=outer
 stack:=envOfC qual scope s.heap.objs.size f cd::outer
 ex:=[]
 calm:=true
 fn:=fun _=>true
 pn:=[]
 xe:=fun e s'=>wpAny (model P w) (A.deeper (envOfC qual scope s.heap.objs.size f cd)) (leaving (envOfC qual scope s.heap.objs.size f cd) e) (fun _ s''=>CX outer H s E e s'') (fun e' s''=>CX outer H s E e' s'') s'
theorem G0 {sc:Scope} {n:Nat} {x:Str} (h:sc.names.lookup x=some .cell):∃ c,(cellsFrom n sc.names []).lookup x=some c:=by
 have q:=PySem.W.cellsFrom_some sc.names n [] (.inl h)
 exact Option.isSome_iff_exists.mp q
theorem N5 {CX:PY} {P:Program} {w:World} {K:PySem.W.Frag} {mg:Str->Option Value} {base:Heap} {N ps:List Str} {qual:Str} {scope:Scope} {f:Addr} {cd:Value} {A:Around} {outer:List Env} {s s1:Shared} {H:Hp} {E:XK} {us:List Value} {vs:List V}
  (S:bB N ps scope) (hd:A.handled=none) (e0:WP P w K mg base A outer s H) (hl:vs.length=ps.length) (r:Vals vs us)
  (x:InCallC s s.heap.objs.size (bindL (envOfC qual scope s.heap.objs.size f cd).kindOf (ps.zip us) fun _=>none) (cellsFrom (s.heap.objs.size+1) scope.names []) (bindC (envOfC qual scope s.heap.objs.size f cd).kindOf (ps.zip us) fun _=>none) s1) :
  Inv (EA CX P w K mg base N qual scope f cd A outer s H E) [] (start N vs) H s1:=by
 have hpl:ps.length<=N.length:=by have:=congrArg List.length S.pre; rw [List.length_take] at this; omega
 obtain ⟨h1,tk,rfl,hk⟩:=x.done
 have noA:∀ b:Addr,b∉(EA CX P w K mg base N qual scope f cd A outer s H E).ex:=fun b z=>absurd (show b∈([]:List Addr) from z) (by simp)
 refine ⟨⟨e0.mod,S.kind,rfl,rfl,Nat.le_refl _,fun y z c h1 h2=>?_,fun y hy=>?_,fun y c _ h=>?_,fun _=>hd,Around.frames_deeper e0.frames,.inr ⟨rfl,rfl⟩,fun b z=>absurd z (noA b),e0.bs,e0.V6,fun b _ _=>noA b,fun b z=>absurd z (noA b),e0.yJ,e0.frf⟩,
  rfl,e0.bare,Un.kept hk,⟨_,x.toInCall.ns,fun i y v h1 h2 h3=>?_⟩,fun y c h=>⟨_,x.cell y c h⟩,e0.hok.fresh (Nat.le_refl _),fun y c h=>?_,fun p hp=>absurd (show p∈([]:List (Addr×Obj)) from hp) (by simp),e0.hok.kept hk,?_⟩
 ·exact name_of_addr x.apart (PySem.mem_of_lookup h1) (PySem.mem_of_lookup h2)
 ·have hy:scope.names.lookup y=some .cell\/scope.names.lookup y=some .free:=hy
  rcases hy with hy | hy
  ·exact G0 hy
  ·exact absurd rfl (S.aA7 _ (PySem.mem_of_lookup hy))
 ·exact Nat.le_of_lt (x.above y c (PySem.mem_of_lookup h))
 ·have hi:i<vs.length:=by
   unfold start at h2
   by_cases hi:i<vs.length
   ·exact hi
   ·rw [List.getElem?_append_right (by simpa using hi)] at h2
    rw [List.getElem?_replicate] at h2
    split at h2<;>cases h2
  have ha:vs[i]? = some v:=by
   unfold start at h2
   rw [List.getElem?_append_left (by simpa using hi),List.getElem?_map] at h2
   cases e:vs[i]? with
   | none=>rw [e] at h2; cases h2
   | some a=>rw [e] at h2; cases h2; rfl
  obtain ⟨u,hu,rv⟩:=r.get ha
  have hp:ps[i]? = some y:=by
   rw [<- S.pre,List.getElem?_take_of_lt (by omega)]; exact h1
  have ndP:ps.Nodup:=by rw [<- S.pre]; exact S.nd.sublist (List.take_sublist _ _)
  refine ⟨u,rv,?_⟩
  rcases S.par y (List.mem_of_getElem? hp) with k | k
  ·exact .inl ⟨k,BV ndP hp hu k⟩
  ·obtain ⟨c,e⟩:=G0 (n:=s.heap.objs.size+1) k
   refine .inr ⟨.inl k,c,e,?_⟩
   have q:=x.cell y c e
   rw [BW ndP hp hu (by show scope.names.lookup y≠_; rw [k]; decide)] at q
   exact q
 ·exact e0.hok.fresh (Nat.le_of_lt (x.above y c (PySem.mem_of_lookup h)))
 ·unfold start
  show _=N.length
  rw [List.length_append,List.length_map,List.length_replicate]
  omega
theorem aCj {CX:PY} {P:Program} {w:World} {K:PySem.W.Frag} {mg:Str->Option Value} {base:Heap} {k:Nat} {f:Addr} {name qual:Str} {params:Arguments} {body:List Stmt} {scope:Scope} {dV kV doc pm cdv ct oc:Value} {an od:Option Addr}
  {osl:Array (Option Value)} {N ps:List Str} {sp:Sp} (lk:K.lookup f=some ⟨oc,od,.func (PySem.W.fnOf name qual params body scope dV kV doc pm an cdv ct),osl⟩) (hcd:PySem.W.codeIn K cdv qual=true) (S:bB N ps scope)
  (len:∀ vs H Q E,sp vs H Q E->vs.length=ps.length)
  (hbody:∀ (A:Around) (outer:List Env) (s:Shared) (H:Hp) (vs:List V) (Q:VK) (E:XK),kU k (A.deeper (envOfC qual scope s.heap.objs.size f cdv))->sp vs H Q E ->
   ∃ t,BR (EA CX P w K mg base N qual scope f cdv A outer s H E) body t/\t { nx:=fun _ H'=>Q .non H',rt:=Q } (start N vs) H) :
  aQ P w K mg base CX (k+1) f (PySem.W.fnOf name qual params body scope dV kV doc pm an cdv ct) ps sp:=by
 refine ⟨len,fun A outer s H args us vs Q E hr e0 hb r hsp=>?_⟩
 have hl:=len _ _ _ _ hsp
 have KX:K.In s.heap:=e0.mod.kin.keeps fun b o e=>(e0.bs b o e).1
 have lim:s.heap.NoLimit:=e0.mod.nolimit.keeps fun b o e=>(e0.bs b o e).1
 have hkind:∀ y∈ps.zip us,scope.names.lookup y.1=some .local\/(scope.names.lookup y.1=some .cell/\((cellsFrom (s.heap.objs.size+1) scope.names []).lookup y.1).isSome=true):=fun ⟨n,v⟩ hy=>by
  rcases S.par n (List.of_mem_zip hy).1 with q | q
  ·exact .inl q
  ·exact .inr ⟨q,PySem.W.cellsFrom_some _ _ _ (.inl q)⟩
 refine codeAny_call_function hr.depth (KX _ _ lk) rfl S.co S.gen rfl (PySem.W.codeRec_of KX hcd) (hb _ _ _ _ ?_)
 refine wpAny_newFunctionEnv_cells S.kind hkind fun env he s1 x=>?_
 subst he
 refine ⟨lim.keeps x.toInCall.keep,codeAny_func ?_⟩
 obtain ⟨t,ht,hq⟩:=hbody A outer s H vs Q E (hr.deeper _) hsp
 have I:Inv (EA CX P w K mg base N qual scope f cdv A outer s H E) [] (start N vs) H s1:=N5 S hr.hd e0 hl r x
 refine wpAny_mono (ht [] s1 (start N vs) H _ I hq) (fun fl s' hs=>?_) fun e s' hs=>hs
 have fin:∀ {σ':St} {H':Hp} {v:V} {u:Value},Inv (EA CX P w K mg base N qual scope f cdv A outer s H E) [] σ' H' s'->RelV v u->Q v H'->CE outer P w H s Q u s' :=
  fun {σ' H' v u} J rv q=>⟨v,H',J.os,J.bare,J.base,J.hok,rv,q⟩
 cases fl with
 | ret u =>
  obtain ⟨v,σ',H',J,rv,q⟩:=hs
  exact fin J rv q
 | next =>
  obtain ⟨σ',H',J,q⟩:=hs
  exact fin (v:=V.non) (u:=Value.none) J rfl q
 | brk =>
  obtain ⟨_,_,_,q⟩:=hs
  exact False.elim q
 | cont =>
  obtain ⟨_,_,_,q⟩:=hs
  exact False.elim q
end L2
namespace L2
open PySem PySem.Spec PyProof.Rows
section
variable {X:Cx} {x:Str} {p pos:Pos} {e:Expr} {es:List Expr} {t:TA} {id T:String} {r:List V->Hp->VK->Prop}
noncomputable def tCB (r:List V->Hp->VK->Prop) (t:TA):TE:=fun σ H Q=>t σ H fun vs H1=>r vs H1 Q
theorem sH (hc:jA X (.builtin id) r) (hg:Gl X x) (hm:X.mg x=none) (hv:bootBuiltins x=some (.builtin id)) (ha:PA X (e::es) t) (hn:x ≠ "__name__" := by decide) (hdb:(x == ("__debug__" : Str))=false:=by decide)
  (he:starEach (e::es) X.env=(false,eval e X.env)::starEach es X.env:=by rfl) (hpl:(backTo pos (starEach es X.env)).any (·.1)=false:=by rfl):PE X (.Call (.Name x p) (e::es) [] pos) (tCB r t):=by
 intro pins s σ H Q I h
 refine wpAny_Call_Name_kw (m7 I hg hm hv ?_ hn hdb)
 exact PyProof.Rows.callWith_builtin1 (fB (ha pos pins s σ H _ I h) fun us s1 ⟨vs,H1,I1,r1,q1⟩=>hc pins s1 σ H1 vs us Q I1 r1 q1) he hpl
theorem pH (hc:jA X (.type T) r) (hg:Gl X x) (hm:X.mg x=none) (hv:bootBuiltins x=some (.type T)) (ha:PA X (e::es) t) (hn:x ≠ "__name__" := by decide) (hdb:(x == ("__debug__" : Str))=false:=by decide)
  (he:starEach (e::es) X.env=(false,eval e X.env)::starEach es X.env:=by rfl) (hpl:(backTo pos (starEach es X.env)).any (·.1)=false:=by rfl):PE X (.Call (.Name x p) (e::es) [] pos) (tCB r t):=by
 intro pins s σ H Q I h
 refine wpAny_Call_Name_kw (m7 I hg hm hv ?_ hn hdb)
 exact PyProof.Rows.callWith_type1 (fB (ha pos pins s σ H _ I h) fun us s1 ⟨vs,H1,I1,r1,q1⟩=>hc pins s1 σ H1 vs us Q I1 r1 q1) he hpl
end
end L2
namespace HT
open PySem PyProof.Rows
section
open PySem.SeqAt
open PySem.AutoSeq1 (wpAny_loadPart')
open PySem.MeetsSeq PySem.MeetsSeq2 PySem.MeetsSeq3
end
section
variable {prog:Program} {w:World} {A:Around} {E:Value->Shared->Prop} {s:Shared}
theorem WQ {t b:Addr} {vs ws:List Value} {Q:Value->Shared->Prop} (ht:IsTup s.heap t vs.toArray) (hb:IsTup s.heap b ws.toArray) (hv:vs≠[])
  (h1:ws=[]->Q (.ref t) s) (h2:ws≠[]->Q (.ref s.heap.objs.size) { s with heap:=s.heap.push { cls:=.type "tuple",data:=.seq (vs++ws).toArray } })
  (hsz:vs.length+ws.length<=sizeLine):wpAny (model prog w) A (binaryOp .Add (.ref t) (.ref b)) Q E s:=by
 obtain ⟨⟨cls,dd,data,sl⟩,ho,hc,n,hd⟩:=id ht
 obtain ⟨⟨cls2,dd2,data2,sl2⟩,ho2,hc2,n2,hd2⟩:=id hb
 simp only at hc hd hc2 hd2
 subst hc hd hc2 hd2
 have e:vs.toArray++ws.toArray=(vs++ws).toArray:=by simp
 by_cases hw:ws=[]
 ·exact concat_meets ⟨_,ho,rfl⟩ ⟨_,ho2,rfl⟩ noFill_tuple_add seq_tuple_add PySem.F.slot_tuple_add PySem.F.entry_tuple_add (PySem.F.args_tuple_add_2 _ _)
   (tuple_addW1 t b vs.toArray ws.toArray n n2 dd dd2 sl sl2 (by simpa using hv) (by simp [hw])) ⟨ho,ho2,h1 hw⟩
 ·refine concat_meets ⟨_,ho,rfl⟩ ⟨_,ho2,rfl⟩ noFill_tuple_add seq_tuple_add PySem.F.slot_tuple_add PySem.F.entry_tuple_add (PySem.F.args_tuple_add_2 _ _)
   (tuple_addW2 t b vs.toArray ws.toArray n n2 dd dd2 sl sl2 (by simpa using hv) (by simpa using hw) (by rw [List.size_toArray,List.size_toArray]; exact hsz)) ⟨ho,ho2,?_⟩
  rw [e]
  exact h2 hw
noncomputable def hV (n d:Nat):Option Int->Nat
 | none=>d
 | some v=>if v<0 then (v+(n:Int)).toNat else min v.toNat n
theorem aA8 (n d:Nat) (hd:d<=n) (o:Option Int):hV n d o<=n:=by
 cases o with
 | none=>exact hd
 | some v =>
  show (if v<0 then (v+(n:Int)).toNat else min v.toNat n)<=n
  by_cases hv:v<0
  ·rw [if_pos hv]; omega
  ·rw [if_neg hv]; exact Nat.min_le_right _ _
theorem MM (v:Int) (n d:Nat):(if v<0 then max (v+(n:Int)) 0 else min v (n:Int))=((hV n d (some v):Nat):Int):=by
 show (if v<0 then max (v+(n:Int)) 0 else min v (n:Int))=(((if v<0 then (v+(n:Int)).toNat else min v.toNat n):Nat):Int)
 by_cases hv:v<0
 ·simp only [if_pos hv]; omega
 ·simp only [if_neg hv]; omega
theorem JP (lo hi:Option Int) (n:Nat):Builtin.Slice.sliceAdjust lo hi 1 (n:Int)=(((hV n 0 lo:Nat):Int),((hV n n hi:Nat):Int)):=by
 have h1:¬ ((1:Int)<0):=by omega
 unfold Builtin.Slice.sliceAdjust
 simp only [h1,if_false]
 refine Prod.ext ?_ ?_
 ·cases lo with
  | none=>rfl
  | some v=>exact MM v n 0
 ·cases hi with
  | none=>rfl
  | some v=>exact MM v n n
theorem JQ (i j:Nat):Builtin.Slice.slicePlaces (i:Int) (j:Int) 1=j - i:=by
 unfold Builtin.Slice.slicePlaces
 have h1:(1:Int)>0:=by omega
 simp only [h1,if_true,Int.ediv_one]
 split<;>omega
theorem yO {v:Value} {o:Option Int} {Q:Option Int->Shared->Prop} (p:IsPart v o) (h:Q o s):wpAny (model prog w) A (Builtin.Slice.slicePartIndex v) Q E s:=by
 cases p with
 | none=>exact slicePart_none h
 | int i t=>exact slicePart_int h
theorem mJ {sl:Addr} {vl vu:Value} {lo hi:Option Int} {n:Nat} {Q:Int×Int×Nat->Shared->Prop} (hs:s.heap.IsSliceOf sl vl vu .none) (pl:IsPart vl lo) (pu:IsPart vu hi)
  (h:Q (((hV n 0 lo:Nat):Int),1,hV n n hi - hV n 0 lo) s):wpAny (model prog w) A (Builtin.Slice.sliceApplied (.ref sl) (pure (n:Int))) Q E s:=by
 obtain ⟨os,hos,hcs,hds⟩:=id hs
 unfold Builtin.Slice.sliceApplied Builtin.Slice.sliceFields
 refine wpAny_bind (wpAny_bind (wpAny_field hos hds (x:=vl) rfl (wpAny_bind (wpAny_field hos hds (x:=vu) rfl (wpAny_bind (wpAny_field hos hds (x:=.none) rfl (wpAny_pure ?_)))))))
 refine wpAny_bind (slicePart_none ?_)
 show wpAny _ _ (if ((1:Int) == 0)=true then _ else _) _ _ s
 rw [if_neg (by decide)]
 refine wpAny_bind (yO pl (wpAny_bind (yO pu (wpAny_bind (wpAny_pure ?_)))))
 show wpAny _ _ (match Builtin.Slice.sliceAdjust lo hi 1 (n:Int) with | (lo,hi)=>pure (lo,(1:Int),Builtin.Slice.slicePlaces lo hi 1)) _ _ s
 rw [JP lo hi n]
 show wpAny _ _ (pure (((hV n 0 lo:Nat):Int),(1:Int),Builtin.Slice.slicePlaces ((hV n 0 lo:Nat):Int) ((hV n n hi:Nat):Int) 1)) _ _ s
 rw [JQ]
 exact wpAny_pure h
theorem SA (xs:Array Value) (i k:Nat):((List.range k).filterMap fun (m:Nat)=>xs[((i:Int)+(m:Int)*1).toNat]?).toArray=((xs.toList.drop i).take k).toArray:=by
 have e:(fun (m:Nat)=>xs[((i:Int)+(m:Int)*1).toNat]?)=fun m=>xs[i+m]?:=by
  funext m
  have:((i:Int)+(m:Int)*1).toNat=i+m:=by omega
  rw [this]
 rw [e]
 have:=pick_run xs i k
 rw [List.filterMap_map] at this
 have e2:((fun x=>xs[x]?)∘fun x=>i+x)=fun m=>xs[i+m]?:=rfl
 rw [e2] at this
 rw [this]
theorem sI {t sl:Addr} {items:Array Value} {vl vu:Value} {lo hi:Option Int} {Q:Value->Shared->Prop} (ht:IsTup s.heap t items) (hs:s.heap.IsSliceOf sl vl vu .none) (pl:IsPart vl lo) (pu:IsPart vu hi)
  (hw:¬ (hV items.size 0 lo=0/\hV items.size items.size hi=items.size))
  (h:Q (.ref s.heap.objs.size) { s with heap:=s.heap.push { cls:=.type "tuple",data:=.seq ((items.toList.drop (hV items.size 0 lo)).take (hV items.size items.size hi - hV items.size 0 lo)).toArray } })
  (hsz:items.size<=sizeLine):wpAny (model prog w) A (getItem (.ref t) (.ref sl)) Q E s:=by
 have MN:sizeOk (.seq ((items.toList.drop (hV items.size 0 lo)).take (hV items.size items.size hi - hV items.size 0 lo)).toArray):=by
  show ((items.toList.drop (hV items.size 0 lo)).take (hV items.size items.size hi - hV items.size 0 lo)).toArray.size<=sizeLine
  rw [List.size_toArray,List.length_take,List.length_drop,Array.length_toList]
  omega
 have hj:hV items.size items.size hi<=items.size:=aA8 _ _ (Nat.le_refl _) hi
 obtain ⟨os,hos,hcs,hds⟩:=id hs
 have hTs:s.TypeIs (.ref sl) "slice" := ⟨os,hos,hcs⟩
 unfold getItem
 try with_reducible refine wpAny_holding ?_
 first | refine wpAny_bind (wpAny_pure ?_) | skip
 refine wpAny_bind (wpAny_sequenceKey ht.typeIs (by decide) ?_)
 refine wpAny_bind (wpAny_callSpecial?_slot (name:=Str.ofString "__getitem__") ht.typeIs PyProof.Rows.slot_tuple_getitem
  (wpAny_call_entry PyProof.Rows.slot_tuple_getitem ht.typeIs entry_tuple_getitem ?_ (args_tuple_getitem _ _)))
 show wpAny _ _ (Builtin.Tuple.tupleItemsOf (.ref t) >>= _) _ _ s
 refine wpAny_bind (tupleItemsOf_ ht ?_)
 refine wpAny_bind (wpAny_typeOf hTs ?_)
 rw [if_pos (by decide)]
 refine wpAny_bind (mJ hs pl pu ?_)
 have hno:¬ ((((hV items.size 0 lo:Nat):Int) == 0&&(1:Int) == 1&&(hV items.size items.size hi - hV items.size 0 lo) == items.size)=true):=by
  intro q
  rw [Bool.and_eq_true,Bool.and_eq_true] at q
  have q1:((hV items.size 0 lo:Nat):Int)=0:=eq_of_beq q.1.1
  have q2:hV items.size items.size hi - hV items.size 0 lo=items.size:=eq_of_beq q.2
  exact hw ⟨by omega,by omega⟩
 show wpAny _ _ (if (((hV items.size 0 lo:Nat):Int) == 0&&(1:Int) == 1&&(hV items.size items.size hi - hV items.size 0 lo) == items.size)=true then _ else _) _ _ s
 rw [if_neg hno,SA]
 first
  | exact wpAny_bind (m:=Builtin.Tuple.tupleExact _) (wpAny_newObj_type (wpAny_pure ⟨_,rfl,wpAny_pure h⟩) MN)
  | exact wpAny_bind (m:=Builtin.Tuple.tupleExact _) (wpAny_newObj_type (wpAny_bind (wpAny_pure (wpAny_pure ⟨_,rfl,wpAny_pure h⟩))) MN)
  | exact wpAny_bind (wpAny_bind (m:=Builtin.Tuple.tupleExact _) (wpAny_newObj_type (wpAny_pure (wpAny_pure ⟨_,rfl,wpAny_pure h⟩)) MN))
  | exact wpAny_bind (wpAny_bind (m:=Builtin.Tuple.tupleExact _) (wpAny_newObj_type (wpAny_pure ⟨_,rfl,wpAny_pure h⟩) MN))
end
end HT
namespace L2
open PySem PySem.Spec PyProof.Rows
noncomputable abbrev TO:=St->Hp->(Option Int->Hp->Prop)->Prop
noncomputable def PO (X:Cx) (e:Option Expr) (t:TO):Prop :=
 ∀ (pins:List (Addr×Obj)) (s:Shared) (σ:St) (H:Hp) (Q:Option Int->Hp->Prop),Inv X pins σ H s->t σ H Q ->
  wpAny (model X.prog X.w) X.A (evalPart e X.env) (fun u s'=>∃ o H',Inv X pins σ H' s'/\IsPart u o/\Q o H') X.xe s
noncomputable def WR:TO:=fun _ H Q=>Q none H
noncomputable def aCk (t:TE):TO:=fun σ H Q=>t σ H fun x H1=>∃ i,x=.int i/\Q (some i) H1
theorem intsAre_of {ns:List Int}:∀ {us:List Value},Vals (ns.map V.int) us->IntsAre us ns:=by
 induction ns with
 | nil=>intro us r; rw [List.map_nil] at r; cases r; exact .nil
 | cons n ns ih =>
  intro us r
  rw [List.map_cons] at r
  cases r with
  | cons r1 r2 =>
   obtain ⟨t,e⟩:=r1
   subst e
   exact .cons n t (ih r2)
section
variable {X:Cx} {e:Expr} {te:TE} {lo hi:Option Expr} {tl th:TO} {pos p2:Pos}
theorem WU:PO X none WR:=by
 intro pins s σ H Q I h
 rw [evalPart_none]
 exact wpAny_pure ⟨none,H,I,.none,h⟩
theorem WV (h:PE X e te):PO X (some e) (aCk te):=by
 intro pins s σ H Q I hw
 rw [evalPart_some]
 refine fB (h pins s σ H _ I hw) fun u s1 hq7=>?_
 obtain ⟨x,H1,I1,r1,q1⟩:=hq7
 obtain ⟨i,rfl,q⟩:=q1
 obtain ⟨t,rfl⟩:=r1
 exact ⟨some i,H1,I1,.int i t,q⟩
noncomputable def YY (X:Cx) (r:V->Option Int->Option Int->Hp->VK->Prop):Prop :=
 ∀ (pins:List (Addr×Obj)) (s:Shared) (σ:St) (H:Hp) (x:V) (v vl vu:Value) (lo hi:Option Int) (sl:Addr) (Q:VK),Inv X pins σ H s->RelV x v->s.heap.IsSliceOf sl vl vu .none->IsPart vl lo->IsPart vu hi->r x lo hi H Q ->
  ∃ T id,typeLookup (.type T) "__getitem__" = pure (some (.builtin id))/\s.TypeIs v T/\wpAny (model X.prog X.w) X.A (getItem v (.ref sl)) (EP X pins σ Q) X.xe s
theorem YY.or {r r':V->Option Int->Option Int->Hp->VK->Prop} (h:YY X r) (h':YY X r'):YY X (fun x lo hi H Q=>r x lo hi H Q\/r' x lo hi H Q):=by
 intro pins s σ H x v vl vu lo hi sl Q I rx hs pl pu q
 rcases q with q | q
 ·exact h pins s σ H x v vl vu lo hi sl Q I rx hs pl pu q
 ·exact h' pins s σ H x v vl vu lo hi sl Q I rx hs pl pu q
noncomputable def tSl (r:V->Option Int->Option Int->Hp->VK->Prop) (te:TE) (tl th:TO):TE:=fun σ H Q=>te σ H fun x H1=>tl σ H1 fun l H2=>th σ H2 fun u H3=>r x l u H3 Q
theorem SC {r:V->Option Int->Option Int->Hp->VK->Prop} (hr:YY X r) (he:PE X e te) (hl:PO X lo tl) (hu:PO X hi th):PE X (.Subscript e (.Slice lo hi none p2) pos) (tSl r te tl th):=by
 intro pins s σ H Q I h
 refine Subscript_ (fB (he pins s σ H _ I h) fun v s1 ⟨x,H1,I1,r1,q1⟩=>?_)
 refine wpAny_Slice (fB (hl pins s1 σ H1 _ I1 q1) fun vl s2 ⟨l,H2,I2,pl,q2⟩=>fB (hu pins s2 σ H2 _ I2 q2) fun vu s3 ⟨u,H3,I3,pu,q3⟩=>?_)
 rw [evalPart_none]
 refine wpAny_pure ?_
 have I4:Inv X pins σ H3 { s3 with heap:=s3.heap.push { cls:=.type "slice",data:=.fields #[vl,vu,.none] } }:=I3.kept (t':=s3.toks) fun b ob q=>Heap.get?_push_of_some _ q
 obtain ⟨T,id,hT,ht,hg⟩:=hr pins { s3 with heap:=s3.heap.push { cls:=.type "slice",data:=.fields #[vl,vu,.none] } } σ H3 x v vl vu l u s3.heap.objs.size Q I4 r1 (Heap.IsSliceOf.new ..) pl pu q3
 show wpAny (model X.prog X.w) X.A (subscriptTail e (.Slice lo hi none p2) v (.ref s3.heap.objs.size)) (EP X pins σ Q) X.xe { s3 with heap:=s3.heap.push { cls:=.type "slice",data:=.fields #[vl,vu,.none] } }
 exact tail_any (ops:=[.ref s3.heap.objs.size,v]) ht hT hg (by with_unfolding_all rfl)
noncomputable def G2 (xs:List V) (lo hi:Option Int):List V:=(xs.drop (HT.hV xs.length 0 lo)).take (HT.hV xs.length xs.length hi - HT.hV xs.length 0 lo)
theorem uN (xs:List V) (lo hi:Option Int):(G2 xs lo hi).length<=xs.length:=by
 unfold G2
 rw [List.length_take,List.length_drop]
 omega
noncomputable def aGx (K:PySem.W.Frag):V->Option Int->Option Int->Hp->VK->Prop:=fun x lo hi H Q=>∃ a xs,x=.ref a/\iP K H a xs /\
 ¬ (HT.hV xs.length 0 lo=0/\HT.hV xs.length xs.length hi=xs.length) /\ ∀ p,H p=none->Q (.ref p) (upd H p (.tup (G2 xs lo hi)))
theorem aA9:YY X (aGx X.K):=by
 intro pins s σ H x v vl vu lo hi sl Q I rx hs pl pu h
 obtain ⟨a,xs,rfl,hx,hw,q⟩:=h
 cases rx
 obtain ⟨its,r,ht,hz⟩:=I.tuple hx
 have hlen:its.toArray.size=xs.length:=by rw [List.size_toArray]; exact r.length.symm
 refine ⟨"tuple",_,PyProof.Rows.slot_tuple_getitem.lookup,ht.typeIs,?_⟩
 refine HT.sI ht hs pl pu (by rw [hlen]; exact hw) ?_ (by rw [hlen]; exact hz)
 rw [hlen]
 refine ⟨.ref s.heap.objs.size,_,I.laid (t':=s.toks) (o:=.tup (G2 xs lo hi)) (fun b ob q=>Heap.get?_push_of_some _ q) (Nat.le_refl _) ?_,rfl,q _ (I.hok.fresh (Nat.le_refl _))⟩
 exact ⟨Nat.le_trans (uN xs lo hi) hz,_,(r.drop (HT.hV xs.length 0 lo)).take (HT.hV xs.length xs.length hi - HT.hV xs.length 0 lo),IsTup.new _ _⟩
noncomputable def aCl (K:PySem.W.Frag):R2:=fun x y H Q=>∃ a b xs ys,x=.ref a/\y=.ref b/\iP K H a xs/\iP K H b ys/\xs≠[]/\xs.length+ys.length<=sizeLine /\
 (ys=[]->Q (.ref a) H)/\(ys≠[] -> ∀ p,H p=none->Q (.ref p) (upd H p (.tup (xs++ys))))
theorem Vals.EB {xs:List V} {us:List Value} (r:Vals xs us):us=[]↔xs=[]:=by
 cases r with
 | nil=>simp
 | cons _ _=>simp
theorem WW:lO X (binaryOp .Add) (aCl X.K):=by
 intro pins s σ H x y v u Q I rx ry h
 obtain ⟨a,b,xs,ys,rfl,rfl,ha,hb,hx,hz,q1,q2⟩:=h
 cases rx
 cases ry
 obtain ⟨its,r1,p1,_⟩:=I.tuple ha
 obtain ⟨its2,r2,p2,_⟩:=I.tuple hb
 refine HT.WQ p1 p2 (fun z=>hx (r1.EB.mp z)) (fun z=>⟨.ref a,H,I,rfl,q1 (r2.EB.mp z)⟩) (fun z=>?_) (by rw [<- r1.length,<- r2.length]; exact hz)
 refine ⟨.ref s.heap.objs.size,_,I.laid (t':=s.toks) (o:=.tup (xs++ys)) (fun b ob q=>Heap.get?_push_of_some _ q) (Nat.le_refl _) ?_,rfl,q2 (fun w=>z (r2.EB.mpr w)) _ (I.hok.fresh (Nat.le_refl _))⟩
 exact ⟨by rw [List.length_append]; exact hz,_,r1.append r2,IsTup.new _ _⟩
end
end L2
namespace L2
open PySem PySem.Spec PyProof.Rows
noncomputable def N6 (n:Nat) (i:Int):Option Nat:=if 0<=i then (if i<n then some i.toNat else none) else if -(n:Int)<=i then some (i+n).toNat else none
noncomputable def u4 {α:Type} (xs:List α) (i:Int):Option α:=(N6 xs.length i).bind fun j=>xs[j]?
theorem EC {n:Nat} {i:Int} {j:Nat} (h:N6 n i=some j):seqIndex? i n=some j/\j<n /\ -(n:Int)<=i/\i<n:=by
 unfold N6 at h
 by_cases h0:0<=i
 ·rw [if_pos h0] at h
  by_cases h1:i<n
  ·rw [if_pos h1] at h
   have e:i.toNat=j:=Option.some.inj h
   exact ⟨by rw [seqIndex_of h0 h1,e],by omega,by omega,h1⟩
  ·rw [if_neg h1] at h; cases h
 ·rw [if_neg h0] at h
  by_cases h1:-(n:Int)<=i
  ·rw [if_pos h1] at h
   have e:(i+n).toNat=j:=Option.some.inj h
   exact ⟨by rw [seqIndex_neg (by omega) h1,e],by omega,h1,by omega⟩
  ·rw [if_neg h1] at h; cases h
theorem MO {α:Type} {xs:List α} {i:Int} {v:α} (h:u4 xs i=some v):∃ j,seqIndex? i xs.length=some j/\xs[j]? = some v/\j<xs.length /\ -(xs.length:Int)<=i/\i<xs.length:=by
 unfold u4 at h
 cases e:N6 xs.length i with
 | none=>rw [e] at h; cases h
 | some j =>
  rw [e] at h
  obtain ⟨h1,h2,h3,h4⟩:=EC e
  exact ⟨j,h1,h,h2,h3,h4⟩
noncomputable def ED (b:Expr):Prop:=∀ o i,subscripted b false o i=operate [o,i] (getItem o i)
noncomputable def IxR (X:Cx) (r:R2):Prop :=
 ∀ (value slice:Expr) (pins:List (Addr×Obj)) (s:Shared) (σ:St) (H:Hp) (x y:V) (v u:Value) (Q:VK),Inv X pins σ H s->RelV x v->RelV y u->r x y H Q ->
  subscripted slice false v u=operate [v,u] (getItem v u)->wpAny (model X.prog X.w) X.A (subscriptTail value slice v u) (EP X pins σ Q) X.xe s
noncomputable def MtR (X:Cx) (id:String) (r:V->List V->Hp->VK->Prop):Prop :=
 ∀ (pins:List (Addr×Obj)) (s:Shared) (σ:St) (H:Hp) (x:V) (xs:List V) (v:Value) (us:List Value) (Q:VK),Inv X pins σ H s->RelV x v->Vals xs us->r x xs H Q ->
  wpAny (model X.prog X.w) X.A (call (.builtin id) (v::us)) (EP X pins σ Q) X.xe s
section
variable {X:Cx} {a b:Expr} {ta tb:TE} {pos:Pos}
theorem IxR.or {r r':R2} (h:IxR X r) (h':IxR X r'):IxR X (fun x y H Q=>r x y H Q\/r' x y H Q):=by
 intro value slice pins s σ H x y v u Q I rx ry q hs
 rcases q with q | q
 ·exact h value slice pins s σ H x y v u Q I rx ry q hs
 ·exact h' value slice pins s σ H x y v u Q I rx ry q hs
theorem aCm {r:R2} (hr:IxR X r) (ha:PE X a ta) (hb:PE X b tb) (hs:ED b):PE X (.Subscript a b pos) (tOp r ta tb):=by
 intro pins s σ H Q I h
 exact Subscript_ (aAV ha hb I h fun v u s2 x y H2 I2 rx ry q=>hr a b pins s2 σ H2 x y v u Q I2 rx ry q (hs _ _))
noncomputable def aCn (K:PySem.W.Frag):R2:=fun x y H Q=>∃ p xs i v,x=.ref p/\y=.int i/\gB K H p xs/\u4 xs i=some v/\Q v H
noncomputable def aCo (K:PySem.W.Frag):R2:=fun x y H Q=>∃ p xs i v,x=.ref p/\y=.int i/\iP K H p xs/\u4 xs i=some v/\Q v H
theorem WY:IxR X (aCn X.K):=by
 intro value slice pins s σ H x y v u Q I rx ry h hs
 obtain ⟨p,xs,i,z,rfl,rfl,hq,he,q⟩:=h
 cases rx
 obtain ⟨t,rfl⟩:=ry
 obtain ⟨its,r,pl,hz⟩:=I.list hq
 obtain ⟨j,h1,h2,h3,h4,h5⟩:=MO he
 obtain ⟨w,ew,JR⟩:=r.get h2
 have hl:=r.length
 have hn:=yN
 have fin:EP X pins σ Q w s:=⟨z,H,I,JR,q⟩
 by_cases h0:0<=i
 ·have hj:i.toNat=j:=by
   rw [seqIndex_of h0 h5] at h1
   exact Option.some.inj h1
  exact item_listR pl.isList h0 (by omega) (by rw [hj]; simpa using ew) fin hs
 ·have hj:(i+(its.toArray.size:Int)).toNat=j:=by
   rw [seqIndex_neg (by omega) h4] at h1
   rw [List.size_toArray,<- hl]
   exact Option.some.inj h1
  exact subscriptTail_builtinR (x:=w) pl.isList.typeIs slot_list_getitem.lookup
   (wpAny_getItem_list_neg (Q:=fun r s'=>r=w/\EP X pins σ Q r s') pl.isList (by omega) (by rw [List.size_toArray]<;>omega) (by omega) (by rw [hj]; simpa using ew) ⟨rfl,fin⟩) hs
theorem aAb:IxR X (aCo X.K):=by
 intro value slice pins s σ H x y v u Q I rx ry h hs
 obtain ⟨p,xs,i,z,rfl,rfl,hq,he,q⟩:=h
 cases rx
 obtain ⟨t,rfl⟩:=ry
 obtain ⟨its,r,pl,hz⟩:=I.tuple hq
 obtain ⟨j,h1,h2,h3,h4,h5⟩:=MO he
 obtain ⟨w,ew,JR⟩:=r.get h2
 have hl:=r.length
 have hn:=yN
 have fin:EP X pins σ Q w s:=⟨z,H,I,JR,q⟩
 exact subscriptTail_builtinR (x:=w) pl.typeIs slot_tuple_getitem.lookup
  (getItem_tuple (j:=j) (Q:=fun r s'=>r=w/\EP X pins σ Q r s') pl (by omega) (by omega) (by rw [List.size_toArray,<- hl]; exact h1) (by simpa using ew) ⟨rfl,fin⟩) hs
theorem JS (its:List Value) (n j:Nat) (u:Value):Obj.mapSeq (·.setIfInBounds j u) { cls:=.type "list",data:=.seq its.toArray n }={ cls:=.type "list",data:=.seq (its.set j u).toArray n }:=by
 simp [Obj.mapSeq]
theorem Inv.lst {pins:List (Addr×Obj)} {σ:St} {H:Hp} {s:Shared} {p:Addr} {xs:List V} (I:Inv X pins σ H s) (h:H p=some (.lst xs)) :
  ∃ (its:List Value) (n:Nat),Vals xs its/\s.heap.get? p=some { cls:=.type "list",data:=.seq its.toArray n }/\xs.length<=sizeLine:=by
 obtain ⟨z,its,n,r,e⟩:=I.hok p _ h
 exact ⟨its,n,r,e,z⟩
theorem Inv.aAc {pins:List (Addr×Obj)} {σ:St} {H:Hp} {s:Shared} {p:Addr} {xs ys:List V} {its its':List Value} {n n':Nat} {f:Obj->Obj} (I:Inv X pins σ H s) (h:H p=some (.lst xs))
  (ho:s.heap.get? p=some { cls:=.type "list",data:=.seq its.toArray n }) (hf:f { cls:=.type "list",data:=.seq its.toArray n }={ cls:=.type "list",data:=.seq its'.toArray n' }) (r:Vals ys its') (hz:ys.length<=sizeLine) (t:Nat) :
  Inv X pins σ (upd H p (.lst ys)) { s with heap:=s.heap.update p f,toks:=t }:=by
 have e:(s.heap.update p f).get? p=some { cls:=.type "list",data:=.seq its'.toArray n' }:=by
  rw [Heap.get?_update_self f ho (by rw [hf]<;>rfl),hf]
 refine I.write (x:=p) (e:=p) (by rw [h]; trivial) (.inl rfl) (fun b u hb q=>(Heap.get?_update_other _ _ (Ne.symm hb)).trans q) ⟨_,e⟩ ?_
 exact ⟨hz,its',n',r,e⟩
noncomputable def aCp:V->V->V->Hp->(Hp->Prop)->Prop:=fun o i v H Q=>∃ p xs k j,o=.ref p/\i=.int k/\H p=some (.lst xs)/\N6 xs.length k=some j/\Q (upd H p (.lst (xs.set j v)))
theorem set_list:aC2 X aCp:=by
 intro pins s σ H o i v ov iv u Q I ro ri rv h
 obtain ⟨p,xs,k,j,rfl,rfl,hp,hj,q⟩:=h
 cases ro
 obtain ⟨t,rfl⟩:=ri
 obtain ⟨its,n,r,ho,hz⟩:=I.lst hp
 obtain ⟨h1,h2,h3,h4⟩:=EC hj
 have hl:=r.length
 have hn:=yN
 have I':Inv X pins σ (upd H p (.lst (xs.set j v))) { s with heap:=s.heap.update p (Obj.mapSeq (·.setIfInBounds j u)) } :=
  I.aAc hp ho (JS its n j u) (r.set rv j) (by rw [List.length_set]; exact hz) s.toks
 by_cases h0:0<=k
 ·have hk:k.toNat=j:=by
   rw [seqIndex_of h0 h4] at h1
   exact Option.some.inj h1
  exact PySem.W.ki_setAt ho h0 (by omega) (by rw [List.size_toArray,<- hl]; exact h4) (by rw [hk]; exact ⟨_,I',q⟩)
 ·have hk:(k+(its.toArray.size:Int)).toNat=j:=by
   rw [seqIndex_neg (by omega) h3] at h1
   rw [List.size_toArray,<- hl]
   exact Option.some.inj h1
  exact PySem.W.ki_setBack ho (by omega) (by rw [List.size_toArray,<- hl]; exact h3) (by omega) (by rw [hk]; exact ⟨_,I',q⟩)
theorem EE (lo hi:Option Int) (n:Nat):(sliceBounds lo hi none n).1=((HT.hV n 0 lo:Nat):Int)/\(sliceBounds lo hi none n).2.1=((HT.hV n n hi:Nat):Int)/\(sliceBounds lo hi none n).2.2=1:=by
 refine ⟨?_,?_,rfl⟩
 ·cases lo with
  | none=>simp [sliceBounds,HT.hV]
  | some i =>
   simp only [sliceBounds,HT.hV,Option.getD_none,show (1:Int)>0 by decide,if_true]
   by_cases h:i<0
   ·simp only [h,if_true]<;>omega
   ·simp only [h,if_false]<;>omega
 ·cases hi with
  | none=>simp [sliceBounds,HT.hV]
  | some i =>
   simp only [sliceBounds,HT.hV,Option.getD_none,show (1:Int)>0 by decide,if_true]
   by_cases h:i<0
   ·simp only [h,if_true]<;>omega
   ·simp only [h,if_false]<;>omega
theorem AM (its:List Value) (lo hi:Option Int):slicePick its.toArray lo hi none=((its.drop (HT.hV its.length 0 lo)).take (HT.hV its.length its.length hi - HT.hV its.length 0 lo)).toArray:=by
 obtain ⟨h1,h2,h3⟩:=EE lo hi its.toArray.size
 unfold slicePick
 rw [h1,h2,h3]
 simp only [sliceRange_one,pick_run,List.size_toArray]<;>rfl
noncomputable def aGy (K:PySem.W.Frag):V->Option Int->Option Int->Hp->VK->Prop:=fun x lo hi H Q=>∃ a xs,x=.ref a/\gB K H a xs /\ ∀ p,H p=none->Q (.ref p) (upd H p (.lst (G2 xs lo hi)))
theorem WZ:YY X (aGy X.K):=by
 intro pins s σ H x v vl vu lo hi sl Q I rx hs pl pu h
 obtain ⟨a,xs,rfl,hx,q⟩:=h
 cases rx
 obtain ⟨its,r,ht,hz⟩:=I.list hx
 have hlen:=r.length
 refine ⟨"list",_,slot_list_getitem.lookup,ht.isList.typeIs,?_⟩
 refine wpAny_getItem_list_slice ht.isList hs pl pu .none (by simp) ?_ (by rw [List.size_toArray]<;>omega)
 rw [AM,<- hlen]
 refine ⟨.ref s.heap.objs.size,_,I.laid (t':=s.toks) (o:=.lst (G2 xs lo hi)) (fun b ob q=>Heap.get?_push_of_some _ q) (Nat.le_refl _) ?_,rfl,q _ (I.hok.fresh (Nat.le_refl _))⟩
 exact ⟨Nat.le_trans (uN xs lo hi) hz,_,0,(r.drop (HT.hV xs.length 0 lo)).take (HT.hV xs.length xs.length hi - HT.hV xs.length 0 lo),Heap.get?_push_size _ rfl⟩
noncomputable def sJ:V->Bool
 | .non=>true
 | .bl _=>true
 | .int _=>true
 | .str _=>true
 | _=>false
noncomputable def YZ:V->V->Bool
 | .non,.non=>true
 | .bl a,.bl b=>a == b
 | .bl a,.int b=>(if a then 1 else 0) == b
 | .int a,.bl b=>a == (if b then 1 else 0)
 | .int a,.int b=>a == b
 | .str a,.str b=>a == b
 | _,_=>false
theorem aAd {A:Around} {s:Shared} {y x:V} {u v:Value} (ry:RelV y u) (rx:RelV x v) (fy:sJ y=true) (fx:sJ x=true):SeqAt.EqAt A s u v (YZ y x):=by
 cases y with
 | non =>
  cases ry
  cases x with
  | non=>cases rx; exact SeqAt.EqAt.same _
  | bl b=>cases rx; exact SeqAt.EqAt.none_bool b
  | int b=>obtain ⟨t,rfl⟩:=rx; exact SeqAt.EqAt.none_int b t
  | str b=>obtain ⟨t,rfl⟩:=rx; exact SeqAt.EqAt.none_str b t
  | _=>exact absurd (show false=true from fx) Bool.false_ne_true
 | bl a =>
  cases ry
  cases x with
  | non=>cases rx; exact SeqAt.EqAt.bool_none a
  | bl b=>cases rx; exact SeqAt.EqAt.bool_bool a b
  | int b=>obtain ⟨t,rfl⟩:=rx; exact SeqAt.EqAt.bool_int a b t
  | str b=>obtain ⟨t,rfl⟩:=rx; exact SeqAt.EqAt.bool_str a b t
  | _=>exact absurd (show false=true from fx) Bool.false_ne_true
 | int a =>
  obtain ⟨t',rfl⟩:=ry
  cases x with
  | non=>cases rx; exact SeqAt.EqAt.int_none a t'
  | bl b=>cases rx; exact SeqAt.EqAt.int_bool a t' b
  | int b=>obtain ⟨t,rfl⟩:=rx; exact SeqAt.EqAt.int_int a t' b t
  | str b=>obtain ⟨t,rfl⟩:=rx; exact SeqAt.EqAt.int_str a t' b t
  | _=>exact absurd (show false=true from fx) Bool.false_ne_true
 | str a =>
  obtain ⟨t',rfl⟩:=ry
  cases x with
  | non=>cases rx; exact SeqAt.EqAt.str_none a t'
  | bl b=>cases rx; exact SeqAt.EqAt.str_bool a t' b
  | int b=>obtain ⟨t,rfl⟩:=rx; exact SeqAt.EqAt.str_int a t' b t
  | str b=>obtain ⟨t,rfl⟩:=rx; exact SeqAt.EqAt.str_str a t' b t
  | _=>exact absurd (show false=true from fx) Bool.false_ne_true
 | _=>exact absurd (show false=true from fy) Bool.false_ne_true
noncomputable def JT (x:V) (u:Value):Bool:=match u with
 | .none=>YZ .non x
 | .bool b=>YZ (.bl b) x
 | .int i _=>YZ (.int i) x
 | .str z _=>YZ (.str z) x
 | _=>false
theorem SD {x y:V} {u:Value} (r:RelV y u) (f:sJ y=true):JT x u=YZ y x:=by
 cases y with
 | non=>cases r; rfl
 | bl b=>cases r; rfl
 | int i=>obtain ⟨t,rfl⟩:=r; rfl
 | str z=>obtain ⟨t,rfl⟩:=r; rfl
 | _=>exact absurd (show false=true from f) Bool.false_ne_true
theorem sK {x:V}:∀ {xs:List V} {us:List Value},Vals xs us->xs.all sJ=true->us.any (JT x)=xs.any fun y=>YZ y x
 | _,_,.nil,_=>rfl
 | y::xs,u::us,.cons r t,f=>by
  rw [List.all_cons,Bool.and_eq_true] at f
  rw [List.any_cons,List.any_cons,SD r f.1,sK t f.2]
theorem nY {A:Around} {s:Shared} {x:V} {v:Value} (rx:RelV x v) (fx:sJ x=true):∀ {xs:List V} {us:List Value},Vals xs us->xs.all sJ=true -> ∀ u∈us,SeqAt.EqAt A s u v (JT x u)
 | _,_,.nil,_=>fun u hu=>by cases hu
 | y::xs,u::us,.cons r t,f=>fun u' hu=>by
  rw [List.all_cons,Bool.and_eq_true] at f
  rcases List.mem_cons.mp hu with rfl | hu
  ·rw [SD r f.1]; exact aAd r rx f.1 fx
  ·exact nY rx fx t f.2 u' hu
noncomputable def inV (x:V) (xs:List V):Bool:=xs.any fun y=>YZ y x
noncomputable def rIn (K:PySem.W.Frag) (neg:Bool):R2:=fun x y H Q=>∃ p xs,y=.ref p/\(gB K H p xs\/iP K H p xs)/\sJ x=true/\xs.all sJ=true/\Q (.bl (if neg then !inV x xs else inV x xs)) H
theorem N7:lO X (compareOp .In) (rIn X.K false):=by
 intro pins s σ H x y v u Q I rx ry h
 obtain ⟨p,xs,rfl,hq,fx,fs,q⟩:=h
 cases ry
 rcases hq with hq | hq
 ·obtain ⟨its,r,pl,hz⟩:=I.list hq
  refine SeqAt.in_listAt (JT x) pl.isList (fun w hw=>nY rx fx r fs w (by simpa using hw)) ⟨.bl _,H,I,rfl,?_⟩
  rw [show its.toArray.any (JT x)=its.any (JT x) by simp,sK r fs]
  exact q
 ·obtain ⟨its,r,pl,hz⟩:=I.tuple hq
  refine SeqAt.in_tupleAt (JT x) pl (fun w hw=>nY rx fx r fs w (by simpa using hw)) ⟨.bl _,H,I,rfl,?_⟩
  rw [show its.toArray.any (JT x)=its.any (JT x) by simp,sK r fs]
  exact q
theorem EG:lO X (compareOp .NotIn) (rIn X.K true):=by
 intro pins s σ H x y v u Q I rx ry h
 obtain ⟨p,xs,rfl,hq,fx,fs,q⟩:=h
 cases ry
 rcases hq with hq | hq
 ·obtain ⟨its,r,pl,hz⟩:=I.list hq
  refine SeqAt.notIn_listAt (JT x) pl.isList (fun w hw=>nY rx fx r fs w (by simpa using hw)) ⟨.bl _,H,I,rfl,?_⟩
  rw [show its.toArray.any (JT x)=its.any (JT x) by simp,sK r fs]
  exact q
 ·obtain ⟨its,r,pl,hz⟩:=I.tuple hq
  refine SeqAt.notIn_tupleAt (JT x) pl (fun w hw=>nY rx fx r fs w (by simpa using hw)) ⟨.bl _,H,I,rfl,?_⟩
  rw [show its.toArray.any (JT x)=its.any (JT x) by simp,sK r fs]
  exact q
theorem EH:jA X (.builtin "len") (fun xs H Q=>∃ p ys,xs=[.ref p]/\(gB X.K H p ys\/iP X.K H p ys)/\Q (.int ys.length) H):=by
 intro pins s σ H xs us Q I r h
 obtain ⟨p,ys,rfl,hq,q⟩:=h
 obtain ⟨u,rfl,rx⟩:=vals1 r
 cases rx
 have hn:=yN
 rcases hq with hq | hq
 ·obtain ⟨its,r',pl,hz⟩:=I.list hq
  have hlen:=r'.length
  exact Calls.call_len_list pl.isList (by simp only [List.size_toArray]<;>omega) ⟨.int ys.length,H,I.tok _,⟨s.toks+1,by rw [List.size_toArray,hlen]⟩,q⟩
 ·obtain ⟨its,r',pl,hz⟩:=I.tuple hq
  have hlen:=r'.length
  exact len_tuple pl (by simp only [List.size_toArray]<;>omega) ⟨.int ys.length,H,I.tok _,⟨s.toks+1,by rw [List.size_toArray,hlen]⟩,q⟩
theorem AN:jA X (.type "tuple") (fun xs H Q=>∃ p ys,xs=[.ref p]/\((gB X.K H p ys /\ ∀ l,H l=none->Q (.ref l) (upd H l (.tup ys)))\/(iP X.K H p ys/\Q (.ref p) H))):=by
 intro pins s σ H xs us Q I r h
 obtain ⟨p,ys,rfl,h⟩:=h
 obtain ⟨u,rfl,rx⟩:=vals1 r
 cases rx
 rcases h with ⟨hq,q⟩ | ⟨hq,q⟩
 ·obtain ⟨its,r',pl,hz⟩:=I.list hq
  have hlen:=r'.length
  refine call_tuple_list pl.isList (fun h' kp=>?_) (by simp only [List.size_toArray]<;>omega)
  have I1:Inv X pins σ H { s with heap:=h' }:=I.kept (t':=s.toks) kp
  have I2:Inv X pins σ (upd H h'.objs.size (.tup ys)) { s with heap:=h'.push { cls:=.type "tuple",data:=.seq its.toArray } } :=
   I1.laid (t':=s.toks) (fun b o e=>Heap.get?_push_of_some _ e) (Nat.le_refl _) (show e9 X.prog X.w _ _ _ (.tup ys) from ⟨hz,its,r',IsTup.new _ _⟩)
  exact ⟨.ref h'.objs.size,_,I2,rfl,q _ (I1.hok.fresh (Nat.le_refl _))⟩
 ·obtain ⟨its,r',pl,hz⟩:=I.tuple hq
  exact call_tuple_same pl ⟨.ref p,H,I,rfl,q⟩
noncomputable def tyV (K:PySem.W.Frag) (T:String) (x:V) (H:Hp):Prop:=match x with
 | .str _=>T = "str"
 | .int _=>T = "int"
 | .ref p=>(T = "list" /\ ∃ xs,gB K H p xs)\/(T = "tuple" /\ ∃ o,K.lookup p=some o/\o.cls=.type "tuple" /\ o.dict=none) \/
   (T = "dict" /\ ((∃ kvs,H p=some (.dK kvs)) \/ ∃ kvs,H p=some (.dT kvs)))\/(T = "set" /\ ∃ S n,H p=some (.set S n))
 | _=>False
theorem aAe {pins:List (Addr×Obj)} {σ:St} {H:Hp} {s:Shared} {T:String} {x:V} {v:Value} (I:Inv X pins σ H s) (r:RelV x v) (ty:tyV X.K T x H) :
  s.TypeIs v T /\ ∀ a,v=.ref a -> ∃ ob,s.heap.get? a=some ob/\ob.dict=none:=by
 cases x with
 | str z =>
  obtain ⟨t,rfl⟩:=r
  cases (show T = "str" from ty)
  exact ⟨typeIs_str s z t,fun _ e=>nomatch e⟩
 | int i =>
  obtain ⟨t,rfl⟩:=r
  cases (show T = "int" from ty)
  exact ⟨typeIs_int s i t,fun _ e=>nomatch e⟩
 | ref p =>
  cases r
  rcases ty with ⟨rfl,xs,hq⟩ | ⟨rfl,o,hk,hc,hd⟩ | ⟨rfl,hk⟩ | ⟨rfl,S,n,hk⟩
  ·obtain ⟨its,_,pl,_⟩:=I.list hq
   refine ⟨pl.isList.typeIs,fun a e=>?_⟩
   cases e
   obtain ⟨o,n,e,c,hd,_⟩:=pl
   exact ⟨o,e,hd⟩
  ·refine ⟨⟨o,I.D6 p o hk,hc⟩,fun a e=>?_⟩
   cases e
   exact ⟨o,I.D6 _ o hk,hd⟩
  ·have z:∃ o,s.heap.get? p=some o/\o.ExactDict:=by
    rcases hk with ⟨kvs,hk⟩ | ⟨kvs,hk⟩
    ·obtain ⟨_,_,_,_,o,_,_,e,ex,_⟩:=I.hok p _ hk
     exact ⟨o,e,ex⟩
    ·obtain ⟨_,_,_,_,o,_,_,e,ex,_⟩:=I.hok p _ hk
     exact ⟨o,e,ex⟩
   obtain ⟨o,e,ex⟩:=z
   refine ⟨⟨o,e,ex.1⟩,fun a e2=>?_⟩
   cases e2
   exact ⟨o,e,ex.2.1⟩
  ·obtain ⟨o,_,_,_,e,ex,_⟩:=I.hok p _ hk
   refine ⟨⟨o,e,ex.1⟩,fun a e2=>?_⟩
   cases e2
   exact ⟨o,e,ex.2.1⟩
 | _=>exact False.elim ty
noncomputable def tBM (K:PySem.W.Frag) (T:String) (r:V->List V->Hp->VK->Prop) (to:TE) (t:TA):TE:=fun σ H Q=>to σ H fun x H1=>tyV K T x H1/\t σ H1 fun xs H2=>r x xs H2 Q
variable {o e:Expr} {es:List Expr} {to:TE} {t:TA} {name:Str} {apos cpos:Pos} {T id:String} {r:V->List V->Hp->VK->Prop}
theorem aCq (pa:PlainAttrs T) (slot:Slot T name id) (hty:typeOf (.builtin id)=pure (.type "method_descriptor")) (hm:MtR X id r) (ho:PE X o to) (ha:PA X (e::es) t)
  (hbase:attributeBase o name X.env (eval o X.env)=eval o X.env:=by rfl)
  (hfew:((backTo cpos (starEach (e::es) X.env)).all (fun x=>!x.1)&&(backToKw cpos (keywordEach [] X.env)).all (fun x=>x.1.isSome)
   && decide ((e::es).length+([]:List Keyword).length+(if ([]:List Keyword).isEmpty then 0 else 1)<30))=true:=by rfl)
  (hline:(apos.endLine == cpos.line)=true:=by rfl) (hs:starEach (e::es) X.env=(false,eval e X.env)::starEach es X.env:=by rfl) (hplain:(backTo cpos (starEach es X.env)).any (·.1)=false:=by rfl) :
  PE X (.Call (.Attribute o name apos) (e::es) [] cpos) (tBM X.K T r to t):=by
 intro pins s σ H Q I h
 refine wpAny_Call_method_late hbase hfew hline rfl (fB (ho pins s σ H _ I h) fun v s1 ⟨x,H1,I1,r1,ty,q1⟩=>?_)
 obtain ⟨h1,h2⟩:=aAe I1 r1 ty
 refine ⟨T,id,pa,slot,hty,h1,h2,?_⟩
 have hA:=ha cpos pins s1 σ H1 _ I1 q1
 rw [hs] at hA ⊢
 refine Calls.callWith_builtin (by show (false||(backTo cpos (starEach es X.env)).any (·.1))=false; rw [hplain]<;>rfl) (Calls.evalArgs_plain ?_)
 exact fB hA fun us s2 hq8=>by obtain ⟨vs,H2,I2,r2,q2⟩:=hq8; exact hm pins s2 σ H2 x vs v us Q I2 r1 r2 q2
end
end L2
namespace L2
open PySem PySem.Spec PyProof.Rows
noncomputable def MtM (X:Cx) (id:String) (r:V->List V->Hp->VK->Prop):Prop :=
 ∀ (pins:List (Addr×Obj)) (s:Shared) (σ:St) (H:Hp) (x:V) (xs:List V) (v:Value) (us:List Value) (Q:VK),Inv X pins σ H s->RelV x v->Vals xs us->r x xs H Q ->
  wpAny (model X.prog X.w) X.A (call (.builtin id) (v::us)) (EP X pins σ Q) X.xe s
theorem Vals.one:∀ {x:V} {us:List Value},Vals [x] us -> ∃ u,us=[u]/\RelV x u
 | _,_,.cons r .nil=>⟨_,rfl,r⟩
theorem Vals.eraseIdx:∀ {xs:List V} {us:List Value} (i:Nat),Vals xs us->Vals (xs.eraseIdx i) (us.eraseIdx i)
 | _,_,_,.nil=>.nil
 | _,_,0,.cons _ t=>t
 | _,_,i+1,.cons r t=>.cons r (Vals.eraseIdx i t)
theorem Vals.rep {xs:List V} {us:List Value} (h:Vals xs us):∀ k:Nat,Vals (List.replicate k xs).flatten (List.replicate k us).flatten
 | 0=>.nil
 | k+1=>by
  rw [List.replicate_succ,List.replicate_succ,List.flatten_cons,List.flatten_cons]
  exact Vals.append h (Vals.rep h k)
theorem BX {α:Type}:∀ (l:List α) (i:Nat),(l.eraseIdx i).length<=l.length
 | [],_=>Nat.le_refl _
 | _::_,0=>Nat.le_succ _
 | _::r,i+1=>Nat.succ_le_succ (BX r i)
theorem foldl_rep (its:List Value):∀ (k:Nat) (acc:List Value),
  List.foldl (fun x1 x2=>x1++x2) acc.toArray (List.replicate k its.toArray)=(acc++(List.replicate k its).flatten).toArray
 | 0,acc=>by simp
 | k+1,acc=>by
  have e:acc.toArray++its.toArray=(acc++its).toArray:=by simp
  have e2:(acc++its)++(List.replicate k its).flatten=acc++(List.replicate (k+1) its).flatten:=by
   rw [List.replicate_succ,List.flatten_cons,List.append_assoc]
  rw [<- e2,<- foldl_rep its k (acc++its),<- e,List.replicate_succ,List.foldl_cons]
section
variable {X:Cx} {pins:List (Addr×Obj)} {σ:St} {H:Hp} {s:Shared} {l b:Addr} {xs ys zs:List V}
theorem Inv.aCr {its its':List Value} {n:Nat} {f:Array Value->Array Value} {t':Nat} (I:Inv X pins σ H s) (hH:H l=some (.lst xs))
  (e:s.heap.get? l=some { cls:=.type "list",data:=.seq its.toArray n }) (hf:f its.toArray=its'.toArray) (hv:Vals ys its') (hz:ys.length<=sizeLine) :
  Inv X pins σ (upd H l (.lst ys)) { s with heap:=s.heap.update l (Obj.mapSeq f),toks:=t' }:=by
 have q:=PySem.IsL.update e f
 rw [hf] at q
 refine I.write (x:=l) (e:=l) (by rw [hH]; exact trivial) (.inl rfl) (fun b' u hb hu=>(Heap.get?_update_other s.heap (Obj.mapSeq f) (Ne.symm hb)).trans hu) ⟨_,q⟩ ?_
 exact ⟨hz,its',_,hv,q⟩
theorem Inv.aCs {its:List Value} {t':Nat} (I:Inv X pins σ H s) (hv:Vals ys its) (hz:ys.length<=sizeLine) :
  Inv X pins σ (upd H s.heap.objs.size (.lst ys)) { s with heap:=s.heap.push { cls:=.type "list",data:=.seq its.toArray },toks:=t' } :=
 I.laid (fun _ _ q=>Heap.get?_push_of_some _ q) (Nat.le_refl _) ⟨hz,its,0,hv,Heap.get?_push_size _ rfl⟩
theorem Inv.fresh (I:Inv X pins σ H s):H s.heap.objs.size=none:=I.hok.fresh (Nat.le_refl _)
theorem Inv.SE (I:Inv X pins σ H s) (hH:H l=some (.lst xs)):xs.length<=sizeLine /\ ∃ (its:List Value) (n:Nat),Vals xs its/\xs.length=its.length/\s.heap.get? l=some { cls:=.type "list",data:=.seq its.toArray n }:=by
 obtain ⟨z,its,n,r,e⟩:=I.hok l _ hH
 exact ⟨z,its,n,r,r.length,e⟩
theorem SG {n:Nat} (h:n<=sizeLine):Builtin.List.listTooLong n=false:=by
 unfold Builtin.List.listTooLong
 exact decide_eq_false (by omega)
end
section
variable {X:Cx}
noncomputable def MP:V->List V->Hp->VK->Prop:=fun x vs H Q=>∃ l xs y,x=.ref l/\vs=[y]/\H l=some (.lst xs)/\xs.length<sizeLine/\Q .non (upd H l (.lst (xs++[y])))
theorem BY:MtM X "list.append" MP:=by
 intro pins s σ H x vs v us Q I rx rv h
 obtain ⟨l,xs,y,rfl,rfl,hH,hz,q⟩:=h
 cases rx
 obtain ⟨u,rfl,ru⟩:=rv.one
 obtain ⟨z,its,n,r,hl,e⟩:=I.SE hH
 refine call_meets F.slot_list_append ⟨_,e,rfl⟩ F.entry_list_append (F.args_list_append_2 _ _) (PySem.list_append l its.toArray n u (by rw [List.size_toArray]; omega)) ⟨e,?_⟩
 refine ⟨.non,_,I.aCr (its':=its++[u]) hH e (by simp) (r.append (.cons ru .nil)) ?_,rfl,q⟩
 rw [List.length_append,List.length_singleton]
 omega
noncomputable def SH:V->List V->Hp->VK->Prop:=fun x vs H Q=>∃ l xs i k y,x=.ref l/\vs=[.int i]/\H l=some (.lst xs) /\ -(2 ^ 63)<=i/\i<2 ^ 63/\seqIndex? i xs.length=some k/\xs[k]? = some y/\Q y (upd H l (.lst (xs.eraseIdx k)))
theorem SI:MtM X "list.pop" SH:=by
 intro pins s σ H x vs v us Q I rx rv h
 obtain ⟨l,xs,i,k,y,rfl,rfl,hH,h1,h2,hk,hy,q⟩:=h
 cases rx
 obtain ⟨u,rfl,ru⟩:=rv.one
 obtain ⟨t,rfl⟩:=ru
 obtain ⟨z,its,n,r,hl,e⟩:=I.SE hH
 obtain ⟨w,hw,JR⟩:=r.get hy
 refine call_meets F.slot_list_pop ⟨_,e,rfl⟩ F.entry_list_pop (F.args_list_pop_2 _ _)
  (MeetsSeq.list_pop_at l its.toArray n i t k w (fitsIndex_both h1 h2) (by rw [List.size_toArray,<- hl]; exact hk) (by rw [<- Array.getElem?_toList]; exact hw) (by rw [List.size_toArray]; omega)) ⟨e,?_⟩
 refine ⟨y,_,I.aCr (its':=its.eraseIdx k) hH e ?_ (r.eraseIdx k) ?_,JR,q⟩
 ·show its.toArray.eraseIdxIfInBounds k=(its.eraseIdx k).toArray
  rw [List.eraseIdxIfInBounds_toArray]
 ·have:=BX xs k
  omega
noncomputable def aCt:R2:=fun x y H Q=>∃ l b xs zs,x=.ref l/\y=.ref b/\H l=some (.lst xs)/\H b=some (.lst zs)/\xs.length+zs.length<=sizeLine /\ ∀ p,H p=none->Q (.ref p) (upd H p (.lst (xs++zs)))
theorem SJ:lO X (binaryOp .Add) aCt:=by
 intro pins s σ H x y v u Q I rx ry h
 obtain ⟨l,b,xs,zs,rfl,rfl,hH,hB,hz,q⟩:=h
 cases rx
 cases ry
 obtain ⟨z,its,n,r,hl,e⟩:=I.SE hH
 obtain ⟨z2,its2,n2,r2,hl2,e2⟩:=I.SE hB
 refine PySem.P.add_list e e2 ?_ (by rw [List.size_toArray,List.size_toArray]; omega)
 have ea:its.toArray++its2.toArray=(its++its2).toArray:=by simp
 rw [ea]
 exact ⟨.ref _,_,I.aCs (t':=s.toks) (r.append r2) (by rw [List.length_append]; omega),rfl,q _ I.fresh⟩
noncomputable def aHA:R2:=fun x y H Q=>∃ l k xs,x=.ref l/\y=.int k/\H l=some (.lst xs) /\ -(2 ^ 63)<=k/\k<2 ^ 63/\xs.length*k.toNat<=sizeLine /\
 ∀ p,H p=none->Q (.ref p) (upd H p (.lst (List.replicate k.toNat xs).flatten))
theorem len_rep {α:Type} (xs:List α) (k:Nat):(List.replicate k xs).flatten.length=k*xs.length:=by
 induction k with
 | zero=>simp
 | succ k ih=>rw [List.replicate_succ,List.flatten_cons,List.length_append,ih,Nat.succ_mul,Nat.add_comm]
theorem aAf:lO X (binaryOp .Mult) aHA:=by
 intro pins s σ H x y v u Q I rx ry h
 obtain ⟨l,k,xs,rfl,rfl,hH,h1,h2,hz,q⟩:=h
 cases rx
 obtain ⟨t,rfl⟩:=ry
 obtain ⟨z,its,n,r,hl,e⟩:=I.SE hH
 have hlen:its.toArray.size*k.toNat<=sizeLine:=by rw [List.size_toArray,<- hl]; exact hz
 have hcap:¬ its.toArray.size*k.toNat>(2 ^ 63 - 1) / 8:=by
  have:(sizeLine:Nat)<=(2 ^ 63 - 1) / 8:=by decide
  omega
 have hfit:¬ (!Builtin.List.listFitsIndex k)=true:=by
  rw [fitsIndex_both h1 h2]
  exact Bool.false_ne_true
 have aCu:¬ Builtin.List.listTooLong (its.toArray.size*k.toNat)=true:=by
  rw [SG hlen]
  exact Bool.false_ne_true
 have hnew:List.foldl (fun x1 x2=>x1++x2) #[] (List.replicate (if its.toArray.isEmpty=true then 0 else k.toNat) its.toArray)=(List.replicate k.toNat its).flatten.toArray:=by
  have f0:∀ m:Nat,List.foldl (fun x1 x2=>x1++x2) #[] (List.replicate m its.toArray)=(List.replicate m its).flatten.toArray:=fun m=>by
   have:=foldl_rep its m []
   rw [List.nil_append] at this
   exact this
  rw [f0]
  cases its with
  | nil=>simp
  | cons a r'=>rw [if_neg (by simp)]
 refine wpAny_binaryOp_repeat_ref (T := "list") (U := "int") (by decide) ⟨_,e,rfl⟩ (fun s'=>typeIs_int s' k t) noFill_list_mul F.fills_int_mul F.slot_int_rmul repeat_list F.slot_int_index.lookup
  (call_meets F.slot_int_rmul (typeIs_int s k t) F.entry_int_rmul (F.args_int_rmul_2 _ _) (int___rmul___int_list k t l its.toArray n)
   ⟨e,rfl,⟨_,e,rfl⟩,call_meets F.slot_list_mul ⟨_,e,rfl⟩ F.entry_list_mul (F.args_list_mul_2 _ _) (AutoListH.list___mul___list_int_3 l its.toArray n k t hfit hcap aCu) ⟨e,?_⟩⟩)
 rw [hnew]
 exact ⟨.ref _,_,I.aCs (t':=s.toks) (r.rep k.toNat) (by rw [len_rep,Nat.mul_comm]; exact hz),rfl,q _ I.fresh⟩
end
section
variable {prog:Program} {w:World} {A:Around} {E:Value->Shared->Prop} {s:Shared}
set_option maxRecDepth 100000 in
end
section
variable {X:Cx}
end
end L2
namespace Att
open PySem PySem.W PySem.Calls PyProof.Rows
theorem u5 {P:Params} {h:Heap}:∀ (ns:List Int) (vs:List Value),WellAll P h vs (ns.map WData.int)->IntsAre vs ns:=by
 intro ns
 induction ns with
 | nil =>
  intro vs w
  rw [List.map_nil] at w
  cases w
  exact .nil
 | cons n ns ih =>
  intro vs w
  rw [List.map_cons] at w
  cases w with
  | cons a b =>
   cases a
   exact .cons _ _ (ih _ b)
theorem N8 {l:OpenLaw} {n:Nat} (hn:l.most=some n) {P:Params} {h:Heap} {args:List WData} {vals:List Value}
  (hpre:l.row.toRowW.claim.pre args=true) (hwl:WellAll P h vals args) :
  ∃ a vs ns,vals=[Value.ref a]/\args=[WData.list (ns.map WData.int)]/\h.get? a=some { cls:=.type "list",data:=.seq vs.toArray }/\IntsAre vs ns/\ns.length<=n:=by
 have hsh:WShape.hasAll [] args [.list .int]=true:=(pre_splitW hpre).1
 have hc:l.pre.holds [] { args:=args }=true:=(pre_splitW hpre).2
 obtain ⟨d,r,rfl,h1,h2⟩:=hasAllW_cons hsh
 obtain rfl:=hasAllW_nil h2
 obtain ⟨xs,rfl,h3⟩:=hasW_list h1
 obtain ⟨ns,rfl⟩:=items_int h3
 have hlen:ns.length<=n:=by
  unfold OpenLaw.pre at hc
  have h4:(WTm.not (.lt (.lit (.int (n:Int))) (.len (.arg 0)))).holds [] { args:=[.list (ns.map .int)] }=true:=by
   have h4:=(holds_andW hc).1
   rw [hn] at h4
   exact h4
  have h5:=condW_of h4 (w_not (w_lt w_lit (w_len_list (w_arg rfl))))
  rw [List.length_map] at h5
  refine Nat.le_of_not_lt fun q=>?_
  have q':(n:Int)<((ns.length:Nat):Int):=by omega
  first
   | (rw [decide_eq_true q'] at h5; exact absurd h5 (by decide))
   | (simp at h5; omega)
 cases hwl with
 | cons w1 w2 =>
  cases w2
  cases w1 with
  | list ho hall=>exact ⟨_,_,ns,rfl,rfl,ho,u5 ns _ hall,hlen⟩
theorem N9 (l:OpenLaw) (args:List WData):l.row.toRowW.claim.post args (.bool true) args=true :=
 postW_of (r:=l.row.toRowW) (X:=(true == true))
  (show WShape.has [] (.bool true) .bool=true by first | rfl | decide | simp [WShape.has,WShape.arms,WShape.armsAll])
  (show (WTm.eq .res (.lit (.bool true))).value [] { args:=args,res:=some (.bool true),after:=args }=some (.bool (true == true)) from w_eq_bool (w_res rfl) w_lit) rfl
theorem G3 {l:OpenLaw} {n:Nat} {q:Program} {loose:List Str} {XP:(Str->Option Value)->Heap->Prop} {YP:World->Heap->Prop} {d:DefRec}
  (hn:l.most=some n) (hdf:d.params.defaults=[])
  (call:∀ (w:World) (s₀ s₁:Shared) (mg mb:Str->Option Value) (fa:Addr) (o:Obj) (pm cd doc:Value) (a:Addr) (vs:List Value) (ns:List Int),
   Ground q loose [] XP w s₀ mg mb s₁.heap->YP w s₁.heap ->
   s₁.heap.get? fa=some o->o.data=.func (docDef d.name d.params d.body d.scope pm cd doc)->s₁.heap.CodeRec cd d.name->mg d.name=some (.ref fa) ->
   s₁.heap.get? a=some { cls:=.type "list",data:=.seq vs.toArray }->IntsAre vs ns->ns.length<=n->s₁.gens=#[] ->
   codeAny (model l.prog w) callerA (.call (.ref fa) ⟨[.ref a],[]⟩) (fun r s'=>r=.ok (.ret (.bool true))/\OldK s₁.heap s'.heap/\s'.os=s₁.os/\AllBare s'.gens) s₁) :
  WalkO q loose XP YP l.row.toRowW d [] (fun f vs=>PySem.call f vs):=by
 intro w s₀ s₁ mg mb G Y fa o pm cd doc dV kV ho hd hcd hD hmg hg args vals as hpre hlay hrd hwl hlo
 obtain rfl:dV=.none:=Dflts.none hD hdf
 obtain rfl:kV=.none:=Dflts.noKw hD
 obtain ⟨a,vs,ns,rfl,rfl,hobj,hints,hlen⟩:=N8 hn hpre hwl
 refine enter_call (codeAny_mono (call w s₀ s₁ mg mb fa o pm cd doc a vs ns G Y ho (fd_plain hd) hcd hmg hobj hints hlen hg) fun r s' hq=>?_)
 obtain ⟨rfl,h2,h3,h4⟩:=hq
 exact ⟨.inl ⟨.bool true,.bool true,[],rfl,fun _=>rfl,.bool true,N9 l _,fun _=>⟨List.Pairwise.nil,fun _ hm=>(nomatch hm)⟩⟩,h2,h3,h4⟩
section
variable {prog:Program} {w:World} {A:Around} {E:Value->Shared->Prop} {s:Shared} {K:Frag}
end
end Att
namespace L2
open PySem PySem.Spec PyProof.Rows
theorem pI:∀ {vs:List Value} {ns:List Int},IntsAre vs ns->Vals (ns.map V.int) vs
 | _,_,.nil=>.nil
 | _,_,.cons n t h=>.cons ⟨t,rfl⟩ (pI h)
noncomputable def Only (H:Hp):Prop:=∀ b,H b=none \/ ∃ o xs,H b=some (.IH o (.lst xs))
theorem SK {P:Program} {w:World} {K:PySem.W.Frag} {mg mb:Str->Option Value} {CX:PY} {k:Nat} {fa a:Addr} {fd:FuncData} {x:Str} {sp:Sp} {s₁:Shared} {vs:List Value} {ns:List Int}
  (KX:K.In s₁.heap) (hns:s₁.heap.Ns mainGlobals mg) (hb:s₁.heap.Ns builtinsNs mb) (hbb:∀ x:Str,x ≠ "__name__" -> mb x=bootBuiltins x) (hlim:s₁.heap.NoLimit) (hg:s₁.gens=#[])
  (ha:s₁.heap.get? a=some { cls:=.type "list",data:=.seq vs.toArray }) (hi:IntsAre vs ns) (hl:ns.length<=sizeLine) (hr:kU k callerA)
  (F:∀ base:Heap,K.In base->base.Ns mainGlobals mg->aQ P w K mg base CX k fa fd [x] sp) (hbind:∀ (s:Shared) (u:Value),BindsTo s fd ⟨[u],[]⟩ [(x,u)])
  (hsp:∀ H:Hp,Only H->gB K H a (ns.map V.int)->sp [.ref a] H (fun v _=>v=.bl true) fun _ _ _=>False)
  (hCX:∀ H e s',CX [] H s₁ (fun _ _ _=>False) e s'->False) :
  codeAny (model P w) callerA (.call (.ref fa) ⟨[.ref a],[]⟩) (fun r s'=>r=.ok (.ret (.bool true))/\OldK s₁.heap s'.heap/\s'.os=s₁.os/\AllBare s'.gens) s₁:=by
 have rv:=pI hi
 have lenV:=hi.length
 -- from an abstract heap in which nothing but the script may be tracked
 have core:∀ H:Hp,Only H->gB K H a (ns.map V.int)->qA P w H s₁.heap->(∀ b,H b≠none->b=a)->(H a≠none->K.lookup a=none) ->
   codeAny (model P w) callerA (.call (.ref fa) ⟨[.ref a],[]⟩) (fun r s'=>r=.ok (.ret (.bool true))/\OldK s₁.heap s'.heap/\s'.os=s₁.os/\AllBare s'.gens) s₁:=by
  intro H hO hS hok hA hK
  have MQ:∀ {b:Addr} {o:Obj},s₁.heap.get? b=some o->H b=none->(D5 s₁.heap H).get? b=some o:=fun e n=>RV e n
  have noA:∀ {b:Addr} {o:Obj} {es:Array DictEntry} {ep:Nat},s₁.heap.get? b=some o->o.data=.dict es ep->H b=none:=fun {b o es ep} e d=>by
   cases q:H b with
   | none=>rfl
   | some u =>
    have e':b=a:=hA b (by rw [q]; simp)
    subst e'
    rw [ha] at e; cases e
    have d':Data.seq vs.toArray _=Data.dict es ep:=d
    cases d'
  have nsK:∀ {b:Addr} {m:Str->Option Value},s₁.heap.Ns b m->(D5 s₁.heap H).Ns b m:=fun {b m} ⟨o,es,ep,e,d,r⟩=>⟨o,es,ep,MQ e (noA e d),d,r⟩
  have hKb:K.In (D5 s₁.heap H):=fun b o e=>MQ (KX b o e) (by
   cases q:H b with
   | none=>rfl
   | some u =>
    have e':b=a:=hA b (by rw [q]; simp)
    subst e'
    rw [hK (by rw [q]; simp)] at e; cases e)
  have hM:Mod K mg (D5 s₁.heap H):=⟨hKb,nsK hns,⟨mb,nsK hb,hbb⟩,let ⟨mc,h1,h2⟩:=hlim; ⟨mc,nsK h1,h2⟩⟩
  have e0:WP P w K mg (D5 s₁.heap H) callerA [] s₁ H:=⟨rfl,hM,fun b o e=>V5 e,Nat.le_of_eq (NV _ _),trivial,fun b hb=>absurd (show b∈([]:List Addr) from hb) (by simp),hok,.of_eq hg⟩
  refine codeAny_mono ((F _ hKb (nsK hns)).run callerA [] s₁ H ⟨[.ref a],[]⟩ [.ref a] [.ref a] _ _ hr e0 (hbind s₁ (.ref a)) (.cons rfl .nil) (hsp H hO hS)) fun r s' h=>?_
  cases r with
  | error e=>exact (hCX H e s' h).elim
  | ok fl =>
   cases fl with
   | next=>exact False.elim h
   | brk=>exact False.elim h
   | cont=>exact False.elim h
   | ret u =>
    obtain ⟨v,H',os,bare,un,hok',r',q⟩:=h
    have q':v=.bl true:=q
    subst q'
    obtain rfl:u=Value.bool true:=r'
    refine ⟨rfl,OldK.of_keep fun b o e=>?_,os,bare⟩
    cases q:H b with
    | none=>exact un.keep b o e q (by intro z; exact absurd (show b∈([]:List Addr) from z) (by simp)) (by simp)
    | some u =>
     rcases hO b with z | ⟨ob,xs,z⟩
     ·rw [q] at z; cases z
     ·have z2:=un.tZ b ob _ z
      obtain ⟨e1,_⟩:=hok b _ z
      obtain ⟨e2,_⟩:=hok' b _ z2
      rw [e] at e1; cases e1
      exact e2
 cases hk:K.lookup a with
 | some o =>
  -- the script is one of the module's own objects
  have e:=KX a o hk
  rw [ha] at e
  cases e
  refine core (fun _=>none) (fun _=>.inl rfl) (.inr ⟨_,vs.toArray,_,hk,rfl,rfl,rfl,by rw [List.size_toArray,lenV]; exact hl,by simpa using rv⟩) (fun b u z=>by have z':(none:Option HO)=some u:=z; cases z') (fun b z=>absurd rfl z) fun z=>absurd rfl z
 | none =>
  refine core (fun b=>if b=a then some (.IH { cls:=.type "list",data:=.seq vs.toArray } (.lst (ns.map V.int))) else none) (fun b=>?_) (.inl (.inr ⟨{ cls:=.type "list",data:=.seq vs.toArray },if_pos rfl⟩)) (fun b u z=>?_) (fun b z=>?_) fun _=>hk
  ·by_cases hb:b=a
   ·exact .inr ⟨_,_,if_pos hb⟩
   ·exact .inl (if_neg hb)
  ·by_cases hb:b=a
   ·have z':=(if_pos hb).symm.trans z
    cases z'
    subst hb
    exact ⟨ha,by rw [List.length_map]; exact hl,vs,_,rv,ha⟩
   ·have z':=(if_neg hb).symm.trans z
    cases z'
  ·by_cases hb:b=a
   ·exact hb
   ·exact absurd (if_neg hb) z
end L2
namespace L2
open PySem PySem.Spec PyProof.Rows
noncomputable abbrev KOf {K:PySem.W.Frag} {h:Heap} (_:K.In h):PySem.W.Frag:=K
theorem W0 {l:PySem.W.OpenLaw} {n k:Nat} {q:Program} {loose:List Str} {XP:(Str->Option Value)->Heap->Prop} {YP:World->Heap->Prop} {d:DefRec} {K:Params->PySem.W.Frag} {CX:World->PY} {sp:World->Sp} {x:Str}
  (hn:l.most=some n) (hn2:n<=sizeLine) (hdf:d.params.defaults=[]) (hr:kU k callerA)
  (hY:∀ (w:World) (h:Heap),YP w h->(K w.params).In h)
  (F:∀ (w:World) (mg:Str->Option Value) (fa:Addr) (h:Heap),(K w.params).In h->h.Ns mainGlobals mg->mg d.name=some (.ref fa) ->
   ∃ fd:FuncData,(∀ (s:Shared) (u:Value),BindsTo s fd ⟨[u],[]⟩ [(x,u)]) /\
    ∀ base:Heap,(K w.params).In base->base.Ns mainGlobals mg->aQ l.prog w (K w.params) mg base (CX w) k fa fd [x] (sp w))
  (hsp:∀ (w:World) (H:Hp) (a:Addr) (ns:List Int),ns.length<=n->Only H->gB (K w.params) H a (ns.map V.int)->sp w [.ref a] H (fun v _=>v=.bl true) fun _ _ _=>False)
  (hCX:∀ (w:World) (H:Hp) (s:Shared) (e:Value) (s':Shared),CX w [] H s (fun _ _ _=>False) e s'->False) :
  PySem.W.WalkO q loose XP YP l.row.toRowW d [] (fun f vs=>PySem.call f vs):=by
 refine Att.G3 hn hdf fun w s₀ s₁ mg mb fa o pm cd doc a vs ns G Y ho hd hcd hmg hobj hints hlen hg=>?_
 have KX:=hY w _ Y
 obtain ⟨fd,hb,hF⟩:=F w mg fa _ KX G.T.g hmg
 exact SK KX G.T.g G.T.b G.T.builtins G.T.nolimit hg hobj hints (Nat.le_trans hlen hn2) hr hF hb (fun H hO hS=>hsp w H a ns hlen hO hS) fun H e s'=>hCX w H s₁ e s'
end L2
namespace L2
open PySem PySem.Spec PyProof.Rows
noncomputable def bE (s:Stmt):Arguments:=match s with
 | .FunctionDef _ a _ _ _ _ _ _ _ _=>a
 | _=>{ posonlyargs:=[],args:=[],vararg:=none,kwonlyargs:=[],kw_defaults:=[],kwarg:=none,defaults:=[] }
noncomputable def aZ (s:Stmt):List Stmt:=match s with
 | .FunctionDef _ _ b _ _ _ _ _ _ _=>b
 | _=>[]
noncomputable def aH (s:Stmt):Scope:=match s with
 | .FunctionDef _ _ _ _ _ _ sc _ _ _=>sc
 | _=>{ kind:=.function,names:=[],isGenerator:=false,isCoroutine:=false }
noncomputable abbrev cQ:PY:=fun _ _ _ _ _ _=>False
noncomputable abbrev E0:XK:=fun _ _ _=>False
theorem SL {X:Cx}:Passes cQ X E0:=fun _ _ _ _ _ _ _ h=>h.elim
structure l0 (K:PySem.W.Frag) (x qual:Str) (st:Stmt) (f:Addr) (fd:FuncData):Prop where
 ex:∃ (oc:Value) (od:Option Addr) (kV doc pm:Value) (an:Option Addr) (cdv ct:Value) (osl:Array (Option Value)),
  fd=PySem.W.fnOf x qual (bE st) (aZ st) (aH st) .none kV doc pm an cdv ct/\K.lookup f=some ⟨oc,od,.func fd,osl⟩/\PySem.W.codeIn K cdv qual=true
 kp:PySem.W.keepIn K (.ref f)=true
section
variable {P:Program} {w:World} {K:PySem.W.Frag} {mg:Str->Option Value} {base:Heap}
theorem l0.ok {x qual:Str} {st:Stmt} {f:Addr} {fd:FuncData} {N ps:List Str} {k:Nat} {sp:Sp} (F:l0 K x qual st f fd) (S:bB N ps (aH st)) (len:∀ vs H Q E,sp vs H Q E->vs.length=ps.length)
  (hbody:∀ (cdv:Value) (A:Around) (outer:List Env) (s:Shared) (H:Hp) (vs:List V) (Q:VK) (E:XK),kU k (A.deeper (envOfC qual (aH st) s.heap.objs.size f cdv))->sp vs H Q E ->
   ∃ t,BR (EA cQ P w K mg base N qual (aH st) f cdv A outer s H E).nox (aZ st) t/\t { nx:=fun _ H'=>Q .non H',rt:=Q } (start N vs) H):aQ P w K mg base cQ (k+1) f fd ps sp:=by
 obtain ⟨oc,od,kV,doc,pm,an,cdv,ct,osl,rfl,lk,hcd⟩:=F.ex
 refine aCj lk hcd S len fun A outer s H vs Q E hr hsp=>?_
 obtain ⟨t,h,q⟩:=hbody cdv A outer s H vs Q E hr hsp
 exact ⟨t,h.nox,q⟩
theorem l0.binds {x qual:Str} {st:Stmt} {f:Addr} {fd:FuncData} {ps:List Str} (F:l0 K x qual st f fd)
  (h:∀ (kV doc pm:Value) (an:Option Addr) (cdv ct:Value) (us:List Value),us.length=ps.length->bindArgs (PySem.W.fnOf x qual (bE st) (aZ st) (aH st) .none kV doc pm an cdv ct) ⟨us,[]⟩=pure (ps.zip us)):Binds K fd ps []:=by
 obtain ⟨oc,od,kV,doc,pm,an,cdv,ct,osl,rfl,lk,hcd⟩:=F.ex
 exact .all (h kV doc pm an cdv ct)
theorem cK {x qual:Str} {st:Stmt} {f:Addr} {oc:Value} {od an:Option Addr} {osl:Array (Option Value)} {kV doc pm cdv ct:Value} (l:K.lookup f=some ⟨oc,od,.func (PySem.W.fnOf x qual (bE st) (aZ st) (aH st) .none kV doc pm an cdv ct),osl⟩)
  (c:PySem.W.codeIn K cdv qual=true) (k:PySem.W.keepIn K (.ref f)=true):l0 K x qual st f (PySem.W.fnOf x qual (bE st) (aZ st) (aH st) .none kV doc pm an cdv ct):=⟨⟨oc,od,kV,doc,pm,an,cdv,ct,osl,rfl,l,c⟩,k⟩
end
section
variable {X:Cx}
end
noncomputable def Same (H H':Hp):Prop:=∀ b o,H b=some o->H' b=some o
theorem Same.refl (H:Hp):Same H H:=fun _ _ h=>h
theorem Same.trans {H H1 H2:Hp} (a:Same H H1) (b:Same H1 H2):Same H H2:=fun c o h=>b c o (a c o h)
theorem Same.free {H H':Hp} (e:Same H H') {l:Addr} (h:H' l=Option.none):H l=Option.none:=by
 cases q:H l with
 | none=>rfl
 | some o =>
  rw [e l o q] at h
  cases h
end L2
namespace L2
open PySem PySem.Spec PyProof.Rows
section
variable {κ:Type} [DecidableEq κ]
noncomputable def lQ (kvs:List (κ×V)) (k:κ):Option V:=(kvs.find? fun kv=>decide (kv.1=k)).map (·.2)
noncomputable def putK (kvs:List (κ×V)) (k:κ) (v:V):List (κ×V) :=
 if (kvs.any fun kv=>decide (kv.1=k))=true then kvs.map (fun kv=>if kv.1=k then (kv.1,v) else kv) else kvs++[(k,v)]
theorem yP {p:κ×V} {r:List (κ×V)} {k:κ} (e:p.1=k):lQ (p::r) k=some p.2:=by simp [lQ,List.find?_cons,e]
theorem yQ {p:κ×V} {r:List (κ×V)} {k:κ} (e:¬ p.1=k):lQ (p::r) k=lQ r k:=by simp [lQ,List.find?_cons,e]
theorem yR (k:κ):∀ kvs:List (κ×V),(kvs.any fun kv=>decide (kv.1=k))=(lQ kvs k).isSome
 | []=>rfl
 | p::r=>by
  rw [List.any_cons]
  by_cases e:p.1=k
  ·simp only [yP e,decide_eq_true e,Bool.true_or,Option.isSome_some]
  ·rw [yQ e,decide_eq_false e,Bool.false_or]; exact yR k r
theorem uO (kvs:List (κ×V)) (k:κ) (v:V):(putK kvs k v).length<=kvs.length+1:=by
 unfold putK
 split
 ·rw [List.length_map]; omega
 ·rw [List.length_append,List.length_cons,List.length_nil]; omega
theorem SM {kvs:List (κ×V)} {k:κ} (v:V) (h:lQ kvs k=none):putK kvs k v=kvs++[(k,v)]:=by
 unfold putK
 rw [yR,h]
 exact if_neg (by decide)
theorem qT.pJ {o:Option V} {u:Option Value} (r:qT o u):o.isSome=u.isSome:=by
 cases o with
 | none=>cases u with
  | none=>rfl
  | some _=>exact (show False from r).elim
 | some _=>cases u with
  | none=>exact (show False from r).elim
  | some _=>rfl
theorem KV.val {kvs:List (κ×V)} {vs:List (κ×Value)} (r:KV kvs vs) (k:κ):qT (lQ kvs k) (valueAt vs k):=by
 unfold KV at r
 induction r with
 | nil=>exact True.intro
 | @cons p q ps qs h t ih =>
  obtain ⟨h1,h2⟩:=h
  by_cases e:p.1=k
  ·have e':q.1=k:=h1.symm.trans e
   have b:valueAt (q::qs) k=some q.2:=by simp [valueAt,List.find?_cons,e']
   rw [yP e,b]; exact h2
  ·have e':¬ q.1=k:=fun z=>e (h1.trans z)
   have b:valueAt (q::qs) k=valueAt qs k:=by simp [valueAt,List.find?_cons,e']
   rw [yQ e,b]; exact ih
theorem KV.any {kvs:List (κ×V)} {vs:List (κ×Value)} (r:KV kvs vs) (k:κ):(kvs.any fun kv=>decide (kv.1=k))=vs.any fun kv=>decide (kv.1=k):=by
 unfold KV at r
 induction r with
 | nil=>rfl
 | cons h t ih=>rw [List.any_cons,List.any_cons,ih,h.1]
theorem KV.repl {kvs:List (κ×V)} {vs:List (κ×Value)} (r:KV kvs vs) (k:κ) {y:V} {u:Value} (ry:RelV y u) :
  KV (kvs.map fun kv=>if kv.1=k then (kv.1,y) else kv) (vs.map fun kv=>if kv.1=k then (kv.1,u) else kv):=by
 unfold KV at r ⊢
 induction r with
 | nil=>exact .nil
 | @cons p q ps qs h t ih =>
  rw [List.map_cons,List.map_cons]
  refine .cons ?_ ih
  obtain ⟨h1,h2⟩:=h
  by_cases e:p.1=k
  ·rw [if_pos e,if_pos (h1.symm.trans e)]; exact ⟨h1,ry⟩
  ·rw [if_neg e,if_neg (fun z=>e (h1.trans z))]; exact ⟨h1,h2⟩
theorem KV.put {kvs:List (κ×V)} {vs:List (κ×Value)} (r:KV kvs vs) (k:κ) {y:V} {u:Value} (ry:RelV y u):KV (putK kvs k y) (stored vs k u):=by
 unfold putK stored
 rw [r.any k]
 by_cases e:(vs.any fun kv=>decide (kv.1=k))=true
 ·rw [if_pos e,if_pos e]; exact r.repl k ry
 ·rw [if_neg e,if_neg e]; exact Paired.snoc r ⟨rfl,ry⟩
theorem KV.length {kvs:List (κ×V)} {vs:List (κ×Value)} (r:KV kvs vs):kvs.length=vs.length:=Paired.length r
end
theorem uP {P:Program} {w:World} {k:Key} {u:Value} (r:RelV (kV k) u):(bM P w).is k u=true:=by
 cases k with
 | inl i=>obtain ⟨t,e⟩:=(show ∃ t,u=Value.int i t from r); subst e; exact GR P w i t
 | inr x=>obtain ⟨t,e⟩:=(show ∃ t,u=Value.str x t from r); subst e; exact GS P w x t
theorem BZ {P:Program} {w:World}:∀ {ks:List Key} {us:List Value},Vals (ks.map kV) us->ItemsAre (bM P w) ks us
 | [],_,r=>by rw [List.map_nil] at r; cases r; exact .nil
 | k::ks,_,r=>by
  rw [List.map_cons] at r
  cases r with
  | cons h t=>exact .cons (uP h) (BZ t)
noncomputable abbrev KT (H:Hp):List (List Key×V)->List (List Key×Addr×Value)->Prop:=Paired fun p q=>p.1=q.1/\H q.2.1=some (.tup (p.1.map kV))/\RelV p.2 q.2.2
theorem KT.val {H:Hp} {kvs:List (List Key×V)} {xs:List (List Key×Addr×Value)} (r:KT H kvs xs) (k:List Key):qT (lQ kvs k) ((atKey xs k).map (·.2)):=by
 induction r with
 | nil=>exact True.intro
 | @cons p q ps qs h t ih =>
  obtain ⟨h1,_,h2⟩:=h
  by_cases e:p.1=k
  ·have e':q.1=k:=h1.symm.trans e
   have b:atKey (q::qs) k=some q.2:=by simp [atKey,List.find?_cons,e']
   rw [yP e,b]; exact h2
  ·have e':¬ q.1=k:=fun z=>e (h1.trans z)
   have b:atKey (q::qs) k=atKey qs k:=by simp [atKey,List.find?_cons,e']
   rw [yQ e,b]; exact ih
theorem KT.repl {H:Hp} {kvs:List (List Key×V)} {xs:List (List Key×Addr×Value)} (r:KT H kvs xs) (k:List Key) {y:V} {u:Value} (ry:RelV y u) :
  KT H (kvs.map fun kv=>if kv.1=k then (kv.1,y) else kv) (xs.map (putAt k u)):=by
 induction r with
 | nil=>exact .nil
 | @cons p q ps qs h t ih =>
  rw [List.map_cons,List.map_cons]
  refine .cons ?_ ih
  obtain ⟨h1,h2,h3⟩:=h
  unfold putAt
  by_cases e:p.1=k
  ·rw [if_pos e,if_pos (h1.symm.trans e)]; exact ⟨h1,h2,ry⟩
  ·rw [if_neg e,if_neg (fun z=>e (h1.trans z))]; exact ⟨h1,h2,h3⟩
theorem KT.put {H:Hp} {kvs:List (List Key×V)} {xs:List (List Key×Addr×Value)} (r:KT H kvs xs) (k:List Key) {b:Addr} {y:V} {u:Value} (hb:H b=some (.tup (k.map kV))) (ry:RelV y u) :
  KT H (putK kvs k y) (storedH xs k b u):=by
 have e:(kvs.any fun kv=>decide (kv.1=k))=(atKey xs k).isSome:=by
  rw [yR,(r.val k).pJ,Option.isSome_map]
 unfold putK storedH
 rw [e]
 by_cases q:(atKey xs k).isSome=true
 ·rw [if_pos q,if_pos q]; exact r.repl k ry
 ·rw [if_neg q,if_neg q]; exact Paired.snoc r ⟨rfl,hb,ry⟩
theorem KT.keeps {H H':Hp} {kvs:List (List Key×V)} {xs:List (List Key×Addr×Value)} (r:KT H kvs xs) (ht:∀ b ys,H b=some (.tup ys)->H' b=some (.tup ys)):KT H' kvs xs :=
 Paired.aAB r fun _ _ z=>⟨z.1,ht _ _ z.2.1,z.2.2⟩
section
variable {P:Program} {w:World} {H:Hp} {h:Heap} {a:Addr}
theorem Y0 {u:HO} (ok:qA P w H h) (e:Rd H a u):e9 P w H h a u:=e.ok ok
theorem SN {kvs:List (Key×V)} (ok:qA P w H h) (e:Rd H a (.dK kvs)):kvs.length<=sizeLine/\(a == sysModules)=false /\ ∃ vs,KV kvs vs/\h.DictOf (bM P w) a vs :=
 show e9 P w H h a (.dK kvs) from Y0 ok e
theorem aCv {kvs:List (Key×V)} (ok:qA P w H h) (e:H a=some (.dK kvs)):kvs.length<=sizeLine/\(a == sysModules)=false /\ ∃ vs,KV kvs vs/\h.DictOf (bM P w) a vs:=SN ok (.inl e)
theorem EI {ks:List Key} (ok:qA P w H h) (e:H a=some (.tup (ks.map kV))):(tupleKind (bM P w)).is h ks a:=by
 obtain ⟨_,its,r,o,h1,h2,n,h3⟩:=(show e9 P w H h a (.tup (ks.map kV)) from ok a _ e)
 exact ⟨o,its.toArray,n,h1,h2,h3,by simpa using BZ r⟩
theorem SQ {kvs:List (List Key×V)} (ok:qA P w H h) (e:Rd H a (.dT kvs)):kvs.length<=sizeLine/\(a == sysModules)=false /\
  ∃ xs,KT H kvs xs/\h.DictOfH (tupleKind (bM P w)) a xs:=by
 obtain ⟨z,y,xs,r,o,es,ep,h1,h2,h3,h4,h5⟩:=(show e9 P w H h a (.dT kvs) from Y0 ok e)
 refine ⟨z,y,xs,r,o,es,ep,h1,h2,h3,h4,fun x hx=>?_,h5⟩
 have all:∀ {l:List (List Key×V)} {m:List (List Key×Addr×Value)},KT H l m -> ∀ x∈m,(tupleKind (bM P w)).is h x.1 x.2.1:=by
  intro l m q
  induction q with
  | nil=>intro x hx; exact nomatch hx
  | @cons p q ps qs hq t ih =>
   intro x hx
   rcases List.mem_cons.mp hx with e | hx
   ·subst e
    exact EI ok (by rw [<- hq.1]; exact hq.2.1)
   ·exact ih x hx
 exact all r x hx
theorem aCw {kvs:List (List Key×V)} (ok:qA P w H h) (e:H a=some (.dT kvs)):kvs.length<=sizeLine/\(a == sysModules)=false /\
  ∃ xs,KT H kvs xs/\h.DictOfH (tupleKind (bM P w)) a xs:=SQ ok (.inl e)
end
noncomputable def G4 (H:Hp) (a:Addr) (y:V) (r:Option V):Prop :=
 (∃ kvs k,Rd H a (.dK kvs)/\y=kV k/\r=lQ kvs k) \/ ∃ kvs k b,Rd H a (.dT kvs)/\y=.ref b/\H b=some (.tup (k.map kV))/\r=lQ kvs k
noncomputable def JU (H:Hp) (a:Addr) (y v:V) (H':Hp):Prop :=
 (∃ kvs k,H a=some (.dK kvs)/\y=kV k/\kvs.length<sizeLine/\H' = upd H a (.dK (putK kvs k v))) \/
 ∃ kvs k b,H a=some (.dT kvs)/\y=.ref b/\H b=some (.tup (k.map kV))/\kvs.length<sizeLine/\H' = upd H a (.dT (putK kvs k v))
theorem G4.k {H:Hp} {a:Addr} {kvs:List (Key×V)} {k:Key} (e:H a=some (.dK kvs)):G4 H a (kV k) (lQ kvs k):=.inl ⟨kvs,k,.inl e,rfl,rfl⟩
theorem G4.t {H:Hp} {a b:Addr} {kvs:List (List Key×V)} {k:List Key} (e:H a=some (.dT kvs)) (eb:H b=some (.tup (k.map kV))):G4 H a (.ref b) (lQ kvs k):=.inr ⟨kvs,k,b,.inl e,rfl,eb,rfl⟩
theorem JU.k {H:Hp} {a:Addr} {kvs:List (Key×V)} {k:Key} {v:V} (e:H a=some (.dK kvs)) (hl:kvs.length<sizeLine):JU H a (kV k) v (upd H a (.dK (putK kvs k v))):=.inl ⟨kvs,k,e,rfl,hl,rfl⟩
theorem JU.t {H:Hp} {a b:Addr} {kvs:List (List Key×V)} {k:List Key} {v:V} (e:H a=some (.dT kvs)) (eb:H b=some (.tup (k.map kV))) (hl:kvs.length<sizeLine) :
  JU H a (.ref b) v (upd H a (.dT (putK kvs k v))):=.inr ⟨kvs,k,b,e,rfl,eb,hl,rfl⟩
section
variable {X:Cx} {pins:List (Addr×Obj)} {σ:St} {H:Hp} {s:Shared} {a:Addr} {y v:V} {u r:Value} {o:Option V} {A:Around} {E:Value->Shared->Prop}
theorem Inv.big (I:Inv X pins σ H s):sysModules<s.heap.objs.size:=by
 have h:mainGlobals<s.heap.objs.size:=(I.mod.glob.keeps I.bk).lt
 exact Nat.lt_trans (by decide) h
theorem OA {Q:Value->Shared->Prop} (hu:A.units+1<cLine) (I:Inv X pins σ H s) (g:G4 H a y (some v)) (ry:RelV y u) (h:∀ w' s',Inv X pins σ H s'->RelV v w'->Q w' s') :
  wpAny (model X.prog X.w) A (getItem (.ref a) u) Q E s:=by
 rcases g with ⟨kvs,k,e,ey,l⟩ | ⟨kvs,k,b,e,ey,eb,l⟩
 ·subst ey
  obtain ⟨z,hd,vs,rel,dd⟩:=SN I.hok e
  obtain ⟨w',hw,JR⟩:=qT.some_of (v:=v) (o:=valueAt vs k) (by rw [l]; exact rel.val k)
  exact wpAny_getItem_of (uP ry) dd.mapOf hw (h w' _ (I.tok _) JR)
 ·subst ey
  cases (show u=Value.ref b from ry)
  obtain ⟨z,hd,xs,rel,dd⟩:=SQ I.hok e
  obtain ⟨w',hw,JR⟩:=qT.some_of (v:=v) (o:=(atKey xs k).map (·.2)) (by rw [l]; exact rel.val k)
  obtain ⟨p,hp,hp2⟩:=Option.map_eq_some_iff.mp hw
  refine wpAny_getItem_heap (tupleKind_room_in1 hu) (EI I.hok eb) dd hp ?_
  rw [hp2]
  exact h w' _ (I.tok _) JR
theorem v0 {h':Heap} {t':Nat} {ob:HO} (I:Inv X pins σ H s) (mu:Mut (H a)) (hs:Heap.SameBut a s.heap h') (he:∃ q,h'.get? a=some q) (new:e9 X.prog X.w (upd H a ob) h' a ob) :
  Inv X pins σ (upd H a ob) { s with heap:=h',toks:=t' } :=
 I.write (x:=a) (e:=a) mu (.inl rfl) (fun b q hb z=>(hs.2 b hb).trans z) he new
theorem aAg {P:Program} {w:World} {H':Hp} {h':Heap} {kvs:List (Key×V)} {vs:List (Key×Value)} (z:kvs.length<=sizeLine) (hd:(a == sysModules)=false) (rel:KV kvs vs) (dd:h'.DictOf (bM P w) a vs) :
  e9 P w H' h' a (.dK kvs):=⟨z,hd,vs,rel,dd⟩
theorem OB {H':Hp} {Q:Unit->Shared->Prop} (hu:A.units+1<cLine) (I:Inv X pins σ H s) (g:JU H a y v H') (ry:RelV y u) (rv:RelV v r) (h:∀ s',Inv X pins σ H' s'->Q () s') :
  wpAny (model X.prog X.w) A (setItem (.ref a) u r) Q E s:=by
 rcases g with ⟨kvs,k,e,ey,l,eH⟩ | ⟨kvs,k,b,e,ey,eb,l,eH⟩
 ·subst ey eH
  obtain ⟨z,hd,vs,rel,dd⟩:=aCv I.hok e
  have hz:vs.length<=sizeLine:=by rw [<- rel.length]; exact z
  have hl:(putK kvs k v).length<=sizeLine:=by have:=uO kvs k v; omega
  refine wpAny_setItem_pairs (hsz:=hz) (uP ry) dd fun h' Y1 hs=>h _ ?_
  have he:∃ q,h'.get? a=some q:=let ⟨q,_,_,hq,_⟩:=Y1; ⟨q,hq⟩
  exact v0 I (by rw [e]; exact True.intro) hs he (aAg hl hd (rel.put k rv) Y1)
 ·subst ey eH
  cases (show u=Value.ref b from ry)
  obtain ⟨z,hd,xs,rel,dd⟩:=aCw I.hok e
  have hz:xs.length<=sizeLine:=by rw [<- Paired.length rel]; exact z
  have hl:(putK kvs k v).length<=sizeLine:=by have:=uO kvs k v; omega
  refine wpAny_setItem_heap (hsz:=hz) (tupleKind_room_in1 hu) (EI I.hok eb) dd fun h' Y1 hs=>h _ ?_
  obtain ⟨q,es,ep,hq,h2,h3,h4,_,h5⟩:=Y1
  refine v0 I (by rw [e]; exact True.intro) hs ⟨q,hq⟩ ⟨hl,hd,_,(rel.put k eb rv).keeps fun c ys ec=>?_,q,es,ep,hq,h2,h3,h4,h5⟩
  rw [cC (YR ec e (fun z=>nomatch z))]
  exact ec
end
section
variable {X:Cx} {pins:List (Addr×Obj)} {σ:St} {H:Hp} {s:Shared} {a:Addr} {kvs:List (Key×V)} {k:Key} {u:Value} {A:Around} {E:Value->Shared->Prop}
end
noncomputable def JV (i:Expr):Prop:=∀ ov iv,subscripted i false ov iv=operate [ov,iv] (getItem ov iv)
theorem MR {prog:Program} {w:World} {A:Around} {E:Value->Shared->Prop} {s:Shared} {env:Env} {value slice:Expr} {pos:Pos} {T id:String} {Q:Value->Shared->Prop}
  (hl:typeLookup (.type T) "__getitem__" = pure (some (.builtin id))) (hs:JV slice)
  (h:wpAny (model prog w) A (eval value env) (fun o s₁=>wpAny (model prog w) A (eval slice env) (fun i s₂=>s₂.TypeIs o T/\wpAny (model prog w) A (getItem o i) Q E s₂) E s₁) E s) :
  wpAny (model prog w) A (eval (.Subscript value slice pos) env) Q E s:=by
 refine Subscript_ (wpAny_mono h (fun o s₁ h₁=>wpAny_mono h₁ (fun i s₂ h₂=>?_) fun _ _ x=>x) fun _ _ x=>x)
 obtain ⟨hT,h₂⟩:=h₂
 unfold subscriptTail
 refine wpAny_bind ?_
 rw [getitemInPython_of_ne hT.not_modules]
 refine wpAny_bind (wpAny_specialOf hT hl ?_)
 have fin:wpAny (model prog w) A (subscripted slice false o i) (fun r s₃=>wpAny (model prog w) A (letTemporaryGo value o r >>= fun _=>pure r) Q E s₃) E s₂:=by
  rw [hs o i]
  exact wpAny_operating (wpAny_mono h₂ (fun r s₃ h₃=>wpAny_bind (wpAny_letTemporaryGo (wpAny_pure h₃))) fun _ _ x=>x)
 first
  | exact wpAny_pure (wpAny_bind fin)
  | exact wpAny_bind (wpAny_pure (wpAny_bind fin))
  | exact wpAny_bind fin
theorem G5 {X:Cx} {pins:List (Addr×Obj)} {σ:St} {H:Hp} {s:Shared} {a:Addr} {y:V} {o:Option V} (I:Inv X pins σ H s) (g:G4 H a y o):s.TypeIs (.ref a) "dict" := by
 rcases g with ⟨kvs,k,e,_,_⟩ | ⟨kvs,k,b,e,_,_,_⟩
 ·obtain ⟨_,_,vs,_,dd⟩:=SN I.hok e
  exact dd.typeIs
 ·obtain ⟨_,_,xs,_,dd⟩:=SQ I.hok e
  exact dd.typeIs
noncomputable def aCx (td ty:TE):TE:=fun σ H Q=>td σ H fun x H1=>ty σ H1 fun y H2=>∃ a v,x=.ref a/\G4 H2 a y (some v)/\Q v H2
noncomputable def aCy (td ty tv:TE):TS:=fun D σ H=>tv σ H fun v H1=>td σ H1 fun x H2=>ty σ H2 fun y H3=>∃ a H4,x=.ref a/\JU H3 a y v H4/\D.nx σ H4
section
variable {X:Cx} {o i e value:Expr} {pos pos' tpos:Pos} {td ty tv:TE}
theorem W1 (hu:X.A.units+1<cLine) (ho:PE X o td) (hi:PE X i ty) (hs:JV i):PE X (.Subscript o i pos) (aCx td ty):=by
 intro pins s σ H Q I h
 refine MR PySem.F.slot_dict_getitem.lookup hs (fB (ho pins s σ H _ I h) fun u s1 ⟨x,H1,I1,rx,q1⟩=>fB (hi pins s1 σ H1 _ I1 q1) fun iv s2 ⟨y,H2,I2,ry,a,v,ex,g,q2⟩=>?_)
 subst ex
 obtain rfl:u=Value.ref a:=rx
 exact ⟨G5 I2 g,OA hu I2 g ry fun w' s3 I3 JR=>⟨v,H2,I3,JR,q2⟩⟩
theorem W2 (hu:X.A.units+1<cLine) (ho:PE X o td) (hi:PE X i ty) (hv:PE X value tv) (hs:swapsWith value (some (.Subscript o i pos')) pos.line X.env=pure false) :
  PS X (.Assign [.Subscript o i pos'] value pos) (aCy td ty tv):=by
 intro pins s σ H D I h
 refine wpAny_Assign_Subscript (fB (hv pins s σ H _ I h) fun r s1 ⟨v,H1,I1,rv,q1⟩=>fB (ho pins s1 σ H1 _ I1 q1) fun u s2 ⟨x,H2,I2,rx,q2⟩=>fB (hi pins s2 σ H2 _ I2 q2) fun iv s3 ⟨y,H3,I3,ry,a,H4,ex,g,q3⟩=>?_) hs
 subst ex
 obtain rfl:u=Value.ref a:=rx
 exact OB hu I3 g ry rv fun s4 I4=>⟨σ,H4,I4,q3⟩
end
theorem SR {P:Program} {w:World} {H:Hp} (h:Heap) (hb:sysModules<h.objs.size):e9 P w H (h.push { cls:=.type "dict",data:=.dict #[] }) h.objs.size (.dK []) :=
 ⟨Nat.zero_le _,beq_eq_false_iff_ne.mpr (Ne.symm (Nat.ne_of_lt hb)),[],.nil,Heap.DictOf.new h⟩
noncomputable def aAh:TE:=fun _ H Q=>∀ p,H p=none->Q (.ref p) (upd H p (.dK []))
section
variable {X:Cx} {pos:Pos}
theorem SS:PE X (.Dict [] [] pos) aAh:=fun pins s σ H Q I h =>
 wpAny_Dict_empty ⟨.ref s.heap.objs.size,_,I.laid (a:=s.heap.objs.size) (o:=.dK []) (t':=s.toks) (fun _ _ q=>Heap.get?_push_of_some _ q) (Nat.le_refl _) (SR s.heap I.big),rfl,h _ (I.hok.fresh (Nat.le_refl _))⟩
end
section
variable {X:Cx} {pins:List (Addr×Obj)} {σ:St} {H:Hp} {s:Shared} {a:Addr} {y d:V} {u r:Value} {o:Option V} {A:Around} {E:Value->Shared->Prop}
end
section
variable {X:Cx} {o e f:Expr} {apos cpos:Pos} {td ty tx:TE}
end
section
variable {X:Cx} {pins:List (Addr×Obj)} {σ:St} {H:Hp} {s:Shared} {a:Addr} {kvs:List (Key×V)} {A:Around} {E:Value->Shared->Prop}
end
section
variable {X:Cx} {pins:List (Addr×Obj)} {σ:St} {H:Hp} {s:Shared} {a:Addr} {y:V} {u:Value} {A:Around} {E:Value->Shared->Prop}
end
end L2
namespace L2
open PySem PySem.Spec PyProof.Rows
section
variable {X:Cx}
end
section
variable {κ:Type} [DecidableEq κ]
end
end L2
end
section
namespace L3
open PySem L2
noncomputable def Y2 (K:PySem.W.Frag) (H:Hp) (a:Addr) (ns:List Int):Prop:=(∃ o,H a=some (.IH o (.lst (ns.map V.int))))\/gB K (fun _=>none) a (ns.map V.int)
mutual
noncomputable def Dn (K:PySem.W.Frag) (S:Addr->Prop) (H:Hp):D->V->Prop
 | .non,v=>v=.non
 | .bl b,v=>v=.bl b
 | .int i,v=>v=.int i
 | .str x,v=>v=.str x
 | .tup ds,v=>∃ a xs,v=.ref a/\H a=some (.tup xs)/\bA K S H ds xs
 | .lst ds,v=>∃ a xs,v=.ref a/\H a=some (.lst xs)/\S a/\bA K S H ds xs
 | .nN ns,v=>∃ a,v=.ref a/\Y2 K H a ns
 | .kR ks ds,v=>∃ a xs,v=.ref a/\H a=some (.dK (ks.zip xs))/\S a/\ks.length=xs.length/\bA K S H ds xs
 | .fC q ks ds,v=>∃ a o kvs,v=.ref a/\H a=some (.dX o kvs)/\S a/\(kvs.map (·.1)=ks/\q a o)/\bA K S H ds (kvs.map (·.2.2))
 | .exc _ a,v=>v=.ref a
noncomputable def bA (K:PySem.W.Frag) (S:Addr->Prop) (H:Hp):List D->List V->Prop
 | [],xs=>xs=[]
 | d::ds,xs=>∃ v r,xs=v::r/\Dn K S H d v/\bA K S H ds r
end
structure Fits (K:PySem.W.Frag) (S S':Addr->Prop) (H H':Hp):Prop where
 t:∀ a xs,H a=some (.tup xs)->H' a=some (.tup xs)
 s:∀ a ns,Y2 K H a ns->Y2 K H' a ns
 l:∀ a xs,H a=some (.lst xs)->S a->H' a=some (.lst xs)/\S' a
 d:∀ a xs,H a=some (.dK xs)->S a->H' a=some (.dK xs)/\S' a
 e:∀ a o xs,H a=some (.dX o xs)->S a->H' a=some (.dX o xs)/\S' a
section
variable {K:PySem.W.Frag} {S S':Addr->Prop} {H H':Hp}
mutual
theorem Dn.fits (f:Fits K S S' H H'):∀ (d:D) (v:V),Dn K S H d v->Dn K S' H' d v
 | .non,v,h=>by simpa only [Dn] using h
 | .bl b,v,h=>by simpa only [Dn] using h
 | .int i,v,h=>by simpa only [Dn] using h
 | .str x,v,h=>by simpa only [Dn] using h
 | .tup ds,v,h=>by
  simp only [Dn] at h ⊢
  obtain ⟨a,xs,e,q,r⟩:=h
  exact ⟨a,xs,e,f.t a xs q,bA.fits f ds xs r⟩
 | .lst ds,v,h=>by
  simp only [Dn] at h ⊢
  obtain ⟨a,xs,e,q,s,r⟩:=h
  obtain ⟨q',s'⟩:=f.l a xs q s
  exact ⟨a,xs,e,q',s',bA.fits f ds xs r⟩
 | .nN ns,v,h=>by
  simp only [Dn] at h ⊢
  obtain ⟨a,e,q⟩:=h
  exact ⟨a,e,f.s a ns q⟩
 | .kR ks ds,v,h=>by
  simp only [Dn] at h ⊢
  obtain ⟨a,xs,e,q,s,l,r⟩:=h
  obtain ⟨q',s'⟩:=f.d a _ q s
  exact ⟨a,xs,e,q',s',l,bA.fits f ds xs r⟩
 | .fC _ ks ds,v,h=>by
  simp only [Dn] at h ⊢
  obtain ⟨a,o,kvs,e,q,s,l,r⟩:=h
  obtain ⟨q',s'⟩:=f.e a _ _ q s
  exact ⟨a,o,kvs,e,q',s',l,bA.fits f ds _ r⟩
 | .exc _ _,v,h=>by simpa only [Dn] using h
theorem bA.fits (f:Fits K S S' H H'):∀ (ds:List D) (xs:List V),bA K S H ds xs->bA K S' H' ds xs
 | [],xs,h=>by simpa only [bA] using h
 | d::ds,xs,h=>by
  simp only [bA] at h ⊢
  obtain ⟨v,r,e,h1,h2⟩:=h
  exact ⟨v,r,e,Dn.fits f d v h1,bA.fits f ds r h2⟩
end
mutual
theorem Dn.OC:∀ (d:D) (v:V),d.IG=true->Dn K S H d v->Dn K S' H d v
 | .non,v,_,h=>by simpa only [Dn] using h
 | .bl b,v,_,h=>by simpa only [Dn] using h
 | .int i,v,_,h=>by simpa only [Dn] using h
 | .str x,v,_,h=>by simpa only [Dn] using h
 | .tup ds,v,hi,h=>by
  simp only [Dn] at h ⊢
  obtain ⟨a,xs,e,q,r⟩:=h
  exact ⟨a,xs,e,q,bA.OC ds xs (by simpa only [D.IG] using hi) r⟩
 | .lst _,v,hi,h=>by simp only [D.IG] at hi; cases hi
 | .nN ns,v,_,h=>by simpa only [Dn] using h
 | .kR _ _,v,hi,h=>by simp only [D.IG] at hi; cases hi
 | .fC _ _ _,v,hi,h=>by simp only [D.IG] at hi; cases hi
 | .exc _ _,v,_,h=>by simpa only [Dn] using h
theorem bA.OC:∀ (ds:List D) (xs:List V),wH ds=true->bA K S H ds xs->bA K S' H ds xs
 | [],xs,_,h=>by simpa only [bA] using h
 | d::ds,xs,hi,h=>by
  simp only [wH,Bool.and_eq_true] at hi
  simp only [bA] at h ⊢
  obtain ⟨v,r,e,h1,h2⟩:=h
  exact ⟨v,r,e,Dn.OC d v hi.1 h1,bA.OC ds r hi.2 h2⟩
end
theorem Dn.IG {d:D} (hi:d.IG=true) {v:V} (h:Dn K S H d v):Dn K S' H d v:=Dn.OC d v hi h
theorem bA.IG {ds:List D} (hi:wH ds=true) {xs:List V} (h:bA K S H ds xs):bA K S' H ds xs:=bA.OC ds xs hi h
theorem gB.some {a:Addr} {xs:List V} (h:gB K (fun _=>none) a xs):gB K H a xs:=by
 rcases h with (h | ⟨o,h⟩) | h
 ·cases h
 ·cases h
 ·exact .inr h
theorem Y2.sq {a:Addr} {ns:List Int} (h:Y2 K H a ns):gB K H a (ns.map V.int):=by
 rcases h with ⟨o,h⟩ | h
 ·exact .inl (.inr ⟨o,h⟩)
 ·exact gB.some h
noncomputable def Wr (H:Hp) (p:Addr):Prop:=(∃ xs,H p=some (.lst xs))\/(∃ xs,H p=some (.dK xs)) \/ ∃ o xs,H p=some (.dX o xs)
theorem Wr.tup {p a:Addr} {o:HO} {xs:List V} (w:Wr H p) (h:H a=some (.tup xs)):upd H p o a=some (.tup xs):=by
 rw [cC]
 ·exact h
 ·intro e
  subst e
  rcases w with ⟨ys,w⟩ | ⟨ys,w⟩ | ⟨_,ys,w⟩<;>rw [h] at w<;>cases w
theorem Wr.nN {p a:Addr} {o:HO} {ns:List Int} (w:Wr H p) (h:Y2 K H a ns):Y2 K (upd H p o) a ns:=by
 rcases h with ⟨ob,h⟩ | h
 ·refine .inl ⟨ob,?_⟩
  rw [cC]
  ·exact h
  ·intro e
   subst e
   rcases w with ⟨ys,w⟩ | ⟨ys,w⟩ | ⟨_,ys,w⟩<;>rw [h] at w<;>cases w
 ·exact .inr h
theorem Fits.same (e:Same H H'):Fits K S S H H' :=
 ⟨fun a xs h=>e _ _ h,fun a ns h=>h.elim (fun ⟨o,h⟩=>.inl ⟨o,e _ _ h⟩) .inr,fun a xs h s=>⟨e _ _ h,s⟩,fun a xs h s=>⟨e _ _ h,s⟩,fun a _ xs h s=>⟨e _ _ h,s⟩⟩
theorem Fits.mono (m:∀ a,S a->S' a):Fits K S S' H H :=
 ⟨fun _ _ h=>h,fun _ _ h=>h,fun a _ h s=>⟨h,m a s⟩,fun a _ h s=>⟨h,m a s⟩,fun a _ _ h s=>⟨h,m a s⟩⟩
theorem Fits.fresh {p:Addr} (hp:H p=none):Fits K S (fun a=>S a/\a≠p) H H :=
 ⟨fun _ _ h=>h,fun _ _ h=>h,fun a _ h s=>⟨h,s,cH h hp⟩,fun a _ h s=>⟨h,s,cH h hp⟩,fun a _ _ h s=>⟨h,s,cH h hp⟩⟩
theorem Fits.upd {p:Addr} {o:HO} (w:Wr H p) (hs:¬ S p):Fits K S S H (upd H p o):=by
 have ne:∀ a,S a->a≠p:=fun a s e=>hs (e▸s)
 exact ⟨fun a xs h=>w.tup h,fun a ns h=>w.nN h,fun a xs h s=>⟨by rw [cC (ne a s)]; exact h,s⟩,fun a xs h s=>⟨by rw [cC (ne a s)]; exact h,s⟩,fun a _ xs h s=>⟨by rw [cC (ne a s)]; exact h,s⟩⟩
theorem Fits.trans {S'':Addr->Prop} {H'':Hp} (a:Fits K S S' H H') (b:Fits K S' S'' H' H''):Fits K S S'' H H'' :=
 ⟨fun x xs h=>b.t x xs (a.t x xs h),fun x ns h=>b.s x ns (a.s x ns h),fun x xs h s=>let ⟨h1,s1⟩:=a.l x xs h s; b.l x xs h1 s1,fun x xs h s=>let ⟨h1,s1⟩:=a.d x xs h s; b.d x xs h1 s1,fun x o xs h s=>let ⟨h1,s1⟩:=a.e x o xs h s; b.e x o xs h1 s1⟩
theorem aY {p:Addr} {o:HO} (hp:H p=none):Same H (upd H p o):=fun b u h=>by rw [cC (cH h hp)]; exact h
theorem bA.len:∀ {ds:List D} {xs:List V},bA K S H ds xs->ds.length=xs.length
 | [],xs,h=>by simp only [bA] at h; subst h; rfl
 | d::ds,xs,h=>by
  simp only [bA] at h
  obtain ⟨v,r,e,_,h2⟩:=h
  subst e
  simp [bA.len h2]
theorem bA.get:∀ {ds:List D} {xs:List V} {i:Nat} {d:D},bA K S H ds xs->ds[i]? = some d -> ∃ v,xs[i]? = some v/\Dn K S H d v
 | [],xs,i,d,h,e=>by simp at e
 | d::ds,xs,i,d',h,e=>by
  simp only [bA] at h
  obtain ⟨v,r,e1,h1,h2⟩:=h
  subst e1
  cases i with
  | zero=>simp at e; subst e; exact ⟨v,by simp,h1⟩
  | succ i =>
   obtain ⟨u,e2,q⟩:=bA.get (i:=i) (d:=d') h2 (by simpa using e)
   exact ⟨u,by simpa using e2,q⟩
theorem bA.nil:bA K S H [] []:=by simp only [bA]
theorem bA.cons {d:D} {ds:List D} {v:V} {xs:List V} (h:Dn K S H d v) (t:bA K S H ds xs):bA K S H (d::ds) (v::xs):=by
 simp only [bA]; exact ⟨v,xs,rfl,h,t⟩
theorem bA.bW {d:D} {ds:List D} {xs:List V} (h:bA K S H (d::ds) xs):∃ v r,xs=v::r/\Dn K S H d v/\bA K S H ds r:=by
 simpa only [bA] using h
theorem bA.append:∀ {ds es:List D} {xs ys:List V},bA K S H ds xs->bA K S H es ys->bA K S H (ds++es) (xs++ys)
 | [],es,xs,ys,h,g=>by simp only [bA] at h; subst h; exact g
 | d::ds,es,xs,ys,h,g=>by
  obtain ⟨v,r,e,h1,h2⟩:=h.bW
  subst e
  exact bA.cons h1 (bA.append h2 g)
theorem bA.one {d:D} {v:V} (h:Dn K S H d v):bA K S H [d] [v]:=bA.cons h bA.nil
theorem bA.take:∀ {ds:List D} {xs:List V} (n:Nat),bA K S H ds xs->bA K S H (ds.take n) (xs.take n)
 | _,_,0,_=>by simp [bA.nil]
 | [],xs,n+1,h=>by simp only [bA] at h; subst h; simp [bA.nil]
 | d::ds,xs,n+1,h=>by
  obtain ⟨v,r,e,h1,h2⟩:=h.bW
  subst e
  simpa using bA.cons h1 (bA.take n h2)
theorem bA.drop:∀ {ds:List D} {xs:List V} (n:Nat),bA K S H ds xs->bA K S H (ds.drop n) (xs.drop n)
 | _,_,0,h=>by simpa using h
 | [],xs,n+1,h=>by simp only [bA] at h; subst h; simp [bA.nil]
 | d::ds,xs,n+1,h=>by
  obtain ⟨v,r,e,h1,h2⟩:=h.bW
  subst e
  simpa using bA.drop n h2
theorem bA.set:∀ {ds:List D} {xs:List V} {d:D} {v:V} (n:Nat),Dn K S H d v->bA K S H ds xs->bA K S H (ds.set n d) (xs.set n v)
 | [],xs,d,v,n,h,g=>by simp only [bA] at g; subst g; simp [bA.nil]
 | d::ds,xs,d',v',n,h,g=>by
  obtain ⟨v,r,e,h1,h2⟩:=g.bW
  subst e
  cases n with
  | zero=>exact bA.cons h h2
  | succ n=>exact bA.cons h1 (bA.set n h h2)
theorem bA.erase:∀ {ds:List D} {xs:List V} (n:Nat),bA K S H ds xs->bA K S H (ds.eraseIdx n) (xs.eraseIdx n)
 | [],xs,n,g=>by simp only [bA] at g; subst g; simp [bA.nil]
 | d::ds,xs,n,g=>by
  obtain ⟨v,r,e,h1,h2⟩:=g.bW
  subst e
  cases n with
  | zero=>exact h2
  | succ n=>exact bA.cons h1 (bA.erase n h2)
theorem bA.ints:∀ {ns:List Int} {xs:List V},bA K S H (ns.map D.int) xs↔xs=ns.map V.int
 | [],xs=>by simp [bA]
 | n::ns,xs=>by
  rw [List.map_cons,List.map_cons]
  constructor
  ·intro h
   obtain ⟨v,r,e,h1,h2⟩:=h.bW
   simp only [Dn] at h1
   rw [e,h1,bA.ints.mp h2]
  ·intro e
   rw [e]
   exact bA.cons (by simp only [Dn]) (bA.ints.mpr rfl)
theorem oW:∀ ns:List Int,wH (ns.map D.int)=true
 | []=>rfl
 | n::ns=>by rw [List.map_cons,wH,oW ns]; rfl
end
noncomputable def Sl (K:PySem.W.Frag) (S:Addr->Prop) (H:Hp) (ρ:cD) (σ:St):Prop:=∀ (i:Nat) (d:D),ρ[i]? = some (some d) -> ∃ v,σ[i]? = some (some v)/\Dn K S H d v
theorem Sl.fits {K:PySem.W.Frag} {S S':Addr->Prop} {H H':Hp} {ρ:cD} {σ:St} (f:Fits K S S' H H') (h:Sl K S H ρ σ):Sl K S' H' ρ σ:=fun i d e =>
 let ⟨v,e1,q⟩:=h i d e; ⟨v,e1,Dn.fits f d v q⟩
noncomputable def yS (K:PySem.W.Frag) (S:Addr->Prop) (H:Hp) (d:D) (p:Addr):Prop :=
 match d with
 | .lst ds=>∃ xs,H p=some (.lst xs)/\bA K S H ds xs
 | .kR ks ds=>∃ xs,H p=some (.dK (ks.zip xs))/\ks.length=xs.length/\bA K S H ds xs
 | .fC q ks ds=>∃ o kvs,H p=some (.dX o kvs)/\(kvs.map (·.1)=ks/\q p o)/\bA K S H ds (kvs.map (·.2.2))
 | _=>False
noncomputable def SO (S:Addr->Prop) (w:Nat->Addr) (ρ:bF):Addr->Prop:=fun a=>S a /\ ∀ (i:Nat) (d:D),ρ[i]? = some (Sv.ow d)->a≠w i
structure ST (K:PySem.W.Frag) (H₀:Hp) (S:Addr->Prop) (w:Nat->Addr) (σ:St) (H:Hp) (ρ:bF) (G:List (D×V)):Prop where
 fc:∀ a,H₀ a=none->S a
 sm:Same H₀ H
 own:∀ (i:Nat) (d:D),ρ[i]? = some (Sv.ow d)->σ[i]? = some (some (.ref (w i)))/\H₀ (w i)=none/\yS K (SO S w ρ) H d (w i)
 inj:∀ (i j:Nat) (d e:D),ρ[i]? = some (Sv.ow d)->ρ[j]? = some (Sv.ow e)->w i=w j->i=j
 ro:∀ (i:Nat) (d:D),ρ[i]? = some (Sv.ro d) -> ∃ v,σ[i]? = some (some v)/\Dn K (SO S w ρ) H d v
 gh:∀ g∈G,Dn K (SO S w ρ) H g.1 g.2
section
variable {K:PySem.W.Frag} {H₀ H H':Hp} {S S':Addr->Prop} {w:Nat->Addr} {σ:St} {ρ:bF} {G:List (D×V)}
theorem yS.wr {d:D} {p:Addr} (h:yS K S H d p):Wr H p:=by
 cases d with
 | lst ds=>obtain ⟨xs,e,_⟩:=h; exact .inl ⟨_,e⟩
 | kR ks ds=>obtain ⟨xs,e,_⟩:=h; exact .inr (.inl ⟨_,e⟩)
 | fC q0 ks ds=>obtain ⟨o,kvs,e,_⟩:=h; exact .inr (.inr ⟨_,_,e⟩)
 | _=>exact False.elim h
theorem yS.dn {d:D} {p:Addr} (h:yS K S H d p) (hs:S' p) (m:∀ a,S a->S' a):Dn K S' H d (.ref p):=by
 cases d with
 | lst ds=>obtain ⟨xs,e,q⟩:=h; simp only [Dn]; exact ⟨p,xs,rfl,e,hs,bA.fits (.mono m) ds xs q⟩
 | kR ks ds=>obtain ⟨xs,e,l,q⟩:=h; simp only [Dn]; exact ⟨p,xs,rfl,e,hs,l,bA.fits (.mono m) ds xs q⟩
 | fC q0 ks ds=>obtain ⟨o,kvs,e,l,q⟩:=h; simp only [Dn]; exact ⟨p,o,kvs,rfl,e,hs,l,bA.fits (.mono m) ds _ q⟩
 | _=>exact False.elim h
theorem yS.fits {d:D} {p:Addr} (f:Fits K S S' H H') (hp:∀ o,H p=some o->H' p=some o) (h:yS K S H d p):yS K S' H' d p:=by
 cases d with
 | lst ds=>obtain ⟨xs,e,q⟩:=h; exact ⟨xs,hp _ e,bA.fits f ds xs q⟩
 | kR ks ds=>obtain ⟨xs,e,l,q⟩:=h; exact ⟨xs,hp _ e,l,bA.fits f ds xs q⟩
 | fC q0 ks ds=>obtain ⟨o,kvs,e,l,q⟩:=h; exact ⟨o,kvs,hp _ e,l,bA.fits f ds _ q⟩
 | _=>exact False.elim h
theorem ST.W3 (h:ST K H₀ S w σ H ρ G):∀ a,H a=none->S a:=fun a e=>h.fc a (h.sm.free e)
theorem ST.SU (h:ST K H₀ S w σ H ρ G):∀ a,H a=none->SO S w ρ a:=fun a e=>⟨h.W3 a e,fun i d q z=>by
 have wr:=(h.own i d q).2.2.wr
 subst z
 rcases wr with ⟨xs,k⟩ | ⟨xs,k⟩ | ⟨_,xs,k⟩<;>rw [e] at k<;>cases k⟩
theorem AO {i:Nat} {d:D} (h:(dR ρ)[i]? = some (some d)):ρ[i]? = some (Sv.ro d)\/ρ[i]? = some (Sv.ow d):=by
 unfold dR at h
 rw [List.getElem?_map] at h
 cases e:ρ[i]? with
 | none=>rw [e] at h; cases h
 | some s =>
  rw [e] at h
  cases s with
  | no=>cases h
  | ro d'=>cases h; exact .inl rfl
  | ow d'=>cases h; exact .inr rfl
theorem EJ {i:Nat} {d:D} (h:(lI ρ)[i]? = some (some d)):ρ[i]? = some (Sv.ro d):=by
 unfold lI at h
 rw [List.getElem?_map] at h
 cases e:ρ[i]? with
 | none=>rw [e] at h; cases h
 | some s =>
  rw [e] at h
  cases s with
  | no=>cases h
  | ro d'=>cases h; rfl
  | ow d'=>cases h
theorem ST.all (h:ST K H₀ S w σ H ρ G):Sl K S H (dR ρ) σ:=fun i d e=>by
 rcases AO e with e | e
 ·obtain ⟨v,e1,q⟩:=h.ro i d e
  exact ⟨v,e1,Dn.fits (.mono fun _ z=>z.1) d v q⟩
 ·obtain ⟨e1,e2,q⟩:=h.own i d e
  exact ⟨_,e1,q.dn (h.fc _ e2) fun _ z=>z.1⟩
theorem ST.rd (h:ST K H₀ S w σ H ρ G):Sl K (SO S w ρ) H (lI ρ) σ:=fun i d e=>h.ro i d (EJ e)
theorem ST.same (h:ST K H₀ S w σ H ρ G) (e:Same H H'):ST K H₀ S w σ H' ρ G :=
 ⟨h.fc,h.sm.trans e,fun i d q=>let ⟨a,b,c⟩:=h.own i d q; ⟨a,b,c.fits (.same e) fun o z=>e _ o z⟩,h.inj,fun i d q=>let ⟨v,a,b⟩:=h.ro i d q; ⟨v,a,Dn.fits (.same e) d v b⟩,fun g hg=>Dn.fits (.same e) _ _ (h.gh g hg)⟩
theorem SO.mono {ρ':bF} (hw:∀ (i:Nat) (d:D),ρ'[i]? = some (Sv.ow d) -> ∃ e,ρ[i]? = some (Sv.ow e)):∀ a,SO S w ρ a->SO S w ρ' a:=fun a hq9=>by obtain ⟨s,n⟩:=hq9; exact ⟨s,fun i d e=>let ⟨d',e'⟩:=hw i d e; n i d' e'⟩
theorem get_set {α:Type} {l:List α} {i j:Nat} {x y:α} (h:(l.set i x)[j]? = some y):(j=i/\y=x/\i<l.length)\/(j≠i/\l[j]? = some y):=by
 by_cases e:j=i
 ·subst e
  by_cases hl:j<l.length
  ·rw [List.getElem?_set_self hl] at h
   exact .inl ⟨rfl,(Option.some.inj h).symm,hl⟩
  ·rw [List.getElem?_eq_none (by simp; omega)] at h
   cases h
 ·rw [List.getElem?_set_ne (Ne.symm e)] at h
  exact .inr ⟨e,h⟩
theorem ST.yT {i:Nat} {d:D} {v:V} (h:ST K H₀ S w σ H ρ G) (hi:i<σ.length) (q:Dn K (SO S w ρ) H d v):ST K H₀ S w (σ.set i (some v)) H (ρ.set i (.ro d)) G:=by
 have hw:∀ (j:Nat) (e:D),(ρ.set i (.ro d))[j]? = some (Sv.ow e)->j≠i/\ρ[j]? = some (Sv.ow e):=fun j e he=>by
  rcases get_set he with ⟨_,z,_⟩ | z
  ·cases z
  ·exact z
 have m:∀ a,SO S w ρ a->SO S w (ρ.set i (.ro d)) a:=SO.mono fun j e he=>⟨e,(hw j e he).2⟩
 refine ⟨h.fc,h.sm,fun j e he=>?_,fun j k d' e' h1 h2=>h.inj j k d' e' (hw j d' h1).2 (hw k e' h2).2,fun j e he=>?_,fun g hg=>Dn.fits (.mono m) _ _ (h.gh g hg)⟩
 ·obtain ⟨hj,he'⟩:=hw j e he
  obtain ⟨a,b,c⟩:=h.own j e he'
  exact ⟨by rw [List.getElem?_set_ne (Ne.symm hj)]; exact a,b,c.fits (.mono m) fun _ z=>z⟩
 ·rcases get_set he with ⟨hj,z,_⟩ | ⟨hj,z⟩
  ·cases z
   subst hj
   exact ⟨v,List.getElem?_set_self hi,Dn.fits (.mono m) d v q⟩
  ·obtain ⟨u,a,b⟩:=h.ro j e z
   exact ⟨u,by rw [List.getElem?_set_ne (Ne.symm hj)]; exact a,Dn.fits (.mono m) e u b⟩
noncomputable def freeze (ρ:bF) (i:Nat):bF:=match ρ[i]? with
 | some (.ow d)=>ρ.set i (.ro d)
 | _=>ρ
theorem ST.frozen {i:Nat} (h:ST K H₀ S w σ H ρ G):ST K H₀ S w σ H (freeze ρ i) G:=by
 unfold freeze
 cases e:ρ[i]? with
 | none=>exact h
 | some s =>
  cases s with
  | no=>exact h
  | ro d=>exact h
  | ow d =>
   dsimp only
   obtain ⟨a,b,c⟩:=h.own i d e
   have hi:i<σ.length:=(List.getElem?_eq_some_iff.mp a).1
   have hw:∀ (j:Nat) (e:D),(ρ.set i (.ro d))[j]? = some (Sv.ow e)->j≠i/\ρ[j]? = some (Sv.ow e):=fun j e he=>by
    rcases get_set he with ⟨_,z,_⟩ | z
    ·cases z
    ·exact z
   have m:∀ a,SO S w ρ a->SO S w (ρ.set i (.ro d)) a:=SO.mono fun j e he=>⟨e,(hw j e he).2⟩
   refine ⟨h.fc,h.sm,fun j f hf=>?_,fun j k d' e' h1 h2=>h.inj j k d' e' (hw j d' h1).2 (hw k e' h2).2,fun j f hf=>?_,fun g hg=>Dn.fits (.mono m) _ _ (h.gh g hg)⟩
   ·obtain ⟨a,b,c⟩:=h.own j f (hw j f hf).2
    exact ⟨a,b,c.fits (.mono m) fun _ z=>z⟩
   ·rcases get_set hf with ⟨hj,z,_⟩ | ⟨hj,z⟩
    ·cases z
     subst hj
     refine ⟨_,a,c.dn ⟨h.fc _ b,fun k f' hk z=>?_⟩ m⟩
     obtain ⟨hk1,hk2⟩:=hw k f' hk
     exact hk1 (h.inj _ _ _ _ e hk2 z).symm
    ·obtain ⟨u,a,b⟩:=h.ro j f z
     exact ⟨u,a,Dn.fits (.mono m) f u b⟩
theorem ST.JW {i:Nat} {d:D} {p:Addr} (h:ST K H₀ S w σ H ρ G) (hi:i<σ.length) (e:Same H H') (hp:H p=none) (q:yS K (fun a=>SO S w ρ a/\a≠p) H' d p) :
  ST K H₀ S (fun j=>if j=i then p else w j) (σ.set i (some (.ref p))) H' (ρ.set i (.ow d)) G:=by
 have h0:H₀ p=none:=h.sm.free hp
 have hw:∀ (j:Nat) (e:D),j≠i->(ρ.set i (.ow d))[j]? = some (Sv.ow e)->ρ[j]? = some (Sv.ow e):=fun j e hj he=>by
  rcases get_set he with ⟨z,_,_⟩ | ⟨_,z⟩
  ·exact absurd z hj
  ·exact z
 have m:∀ a,(SO S w ρ a/\a≠p)->SO S (fun j=>if j=i then p else w j) (ρ.set i (.ow d)) a:=fun a ⟨⟨s,n⟩,ne⟩=>⟨s,fun j f hf=>by
  show a≠(if j=i then p else w j)
  by_cases hj:j=i
  ·rw [if_pos hj]; exact ne
  ·rw [if_neg hj]; exact n j f (hw j f hj hf)⟩
 have F:Fits K (SO S w ρ) (SO S (fun j=>if j=i then p else w j) (ρ.set i (.ow d))) H H':=((Fits.fresh hp).trans (.mono m)).trans (.same e)
 have wp:∀ (j:Nat) (f:D),ρ[j]? = some (Sv.ow f)->w j≠p:=fun j f hf z=>by
  have wr:=(h.own j f hf).2.2.wr
  rw [z] at wr
  rcases wr with ⟨xs,k⟩ | ⟨xs,k⟩ | ⟨_,xs,k⟩<;>rw [hp] at k<;>cases k
 refine ⟨h.fc,h.sm.trans e,fun j f hf=>?_,fun j k d' e' h1 h2 z=>?_,fun j f hf=>?_,fun g hg=>Dn.fits F _ _ (h.gh g hg)⟩
 ·by_cases hj:j=i
  ·subst hj
   rcases get_set hf with ⟨_,z,_⟩ | ⟨z,_⟩
   ·cases z
    rw [if_pos rfl]
    exact ⟨List.getElem?_set_self hi,h0,q.fits (.mono m) fun _ z=>z⟩
   ·exact absurd rfl z
  ·rw [if_neg hj]
   obtain ⟨a,b,c⟩:=h.own j f (hw j f hj hf)
   exact ⟨by rw [List.getElem?_set_ne (Ne.symm hj)]; exact a,b,c.fits F fun o z=>e _ o z⟩
 ·have z:(if j=i then p else w j)=(if k=i then p else w k):=z
  by_cases hj:j=i
  ·by_cases hk:k=i
   ·rw [hj,hk]
   ·rw [if_pos hj,if_neg hk] at z
    exact absurd z.symm (wp k e' (hw k e' hk h2))
  ·by_cases hk:k=i
   ·rw [if_neg hj,if_pos hk] at z
    exact absurd z (wp j d' (hw j d' hj h1))
   ·rw [if_neg hj,if_neg hk] at z
    exact h.inj j k d' e' (hw j d' hj h1) (hw k e' hk h2) z
 ·rcases get_set hf with ⟨_,z,_⟩ | ⟨hj,z⟩
  ·cases z
  ·obtain ⟨u,a,b⟩:=h.ro j f z
   exact ⟨u,by rw [List.getElem?_set_ne (Ne.symm hj)]; exact a,Dn.fits F f u b⟩
theorem ST.write {i:Nat} {d d':D} {o:HO} (h:ST K H₀ S w σ H ρ G) (e:ρ[i]? = some (Sv.ow d)) (q:yS K (SO S w ρ) (upd H (w i) o) d' (w i)):ST K H₀ S w σ (upd H (w i) o) (ρ.set i (.ow d')) G:=by
 obtain ⟨a0,b0,c0⟩:=h.own i d e
 have so:SO S w (ρ.set i (.ow d'))=SO S w ρ:=by
  funext a
  refine propext ⟨fun ⟨s,n⟩=>⟨s,fun j f hf=>?_⟩,fun ⟨s,n⟩=>⟨s,fun j f hf=>?_⟩⟩
  ·by_cases hj:j=i
   ·subst hj
    exact n j d' (by rw [List.getElem?_set_self (List.getElem?_eq_some_iff.mp e).1])
   ·exact n j f (by rw [List.getElem?_set_ne (Ne.symm hj)]; exact hf)
  ·by_cases hj:j=i
   ·subst hj; exact n j d e
   ·exact n j f (by rw [List.getElem?_set_ne (Ne.symm hj)] at hf; exact hf)
 have nS:¬ SO S w ρ (w i):=fun ⟨_,n⟩=>n i d e rfl
 have F:Fits K (SO S w ρ) (SO S w ρ) H (upd H (w i) o):=.upd c0.wr nS
 refine ⟨h.fc,fun b u hb=>?_,fun j f hf=>?_,fun j k d1 e1 h1 h2 z=>?_,fun j f hf=>?_,fun g hg=>by rw [so]; exact Dn.fits F _ _ (h.gh g hg)⟩
 ·rw [cC (cH hb b0)]
  exact h.sm b u hb
 ·rw [so]
  rcases get_set hf with ⟨hj,z,_⟩ | ⟨hj,z⟩
  ·cases z
   subst hj
   exact ⟨a0,b0,q⟩
  ·obtain ⟨a,b,c⟩:=h.own j f z
   exact ⟨a,b,c.fits F fun ob hob=>by rw [cC fun y=>hj (h.inj _ _ _ _ z e y)]; exact hob⟩
 ·have g1:∃ d2,ρ[j]? = some (Sv.ow d2):=by
   rcases get_set h1 with ⟨hj,_,_⟩ | ⟨_,z⟩
   ·subst hj; exact ⟨d,e⟩
   ·exact ⟨_,z⟩
  have g2:∃ d2,ρ[k]? = some (Sv.ow d2):=by
   rcases get_set h2 with ⟨hj,_,_⟩ | ⟨_,z⟩
   ·subst hj; exact ⟨d,e⟩
   ·exact ⟨_,z⟩
  obtain ⟨_,g1⟩:=g1
  obtain ⟨_,g2⟩:=g2
  exact h.inj j k _ _ g1 g2 z
 ·rw [so]
  rcases get_set hf with ⟨_,z,_⟩ | ⟨hj,z⟩
  ·cases z
  ·obtain ⟨u,a,b⟩:=h.ro j f z
   exact ⟨u,a,Dn.fits F f u b⟩
theorem ST.ghost (h:ST K H₀ S w σ H ρ G) {G':List (D×V)} (hg:∀ g∈G',Dn K (SO S w ρ) H g.1 g.2):ST K H₀ S w σ H ρ G':=⟨h.fc,h.sm,h.own,h.inj,h.ro,hg⟩
end
end L3
end
section
namespace L3
open PySem PySem.Spec PyProof.Rows L2
noncomputable abbrev WE:=cD->(D->Prop)->Prop
noncomputable abbrev WT:=cD->(Bool->Prop)->Prop
noncomputable abbrev WA:=cD->(List D->Prop)->Prop
noncomputable def lift (K:PySem.W.Frag) (t:WE):TE:=fun σ H Q=>∃ (S:Addr->Prop) (ρ:cD) (Q3:D->Prop),(∀ a,H a=none->S a)/\Sl K S H ρ σ/\t ρ Q3 /\ ∀ v H' d,Same H H'->Dn K S H' d v->Q3 d->Q v H'
noncomputable def liftT (K:PySem.W.Frag) (t:WT):TT:=fun σ H Q=>∃ (S:Addr->Prop) (ρ:cD) (Q3:Bool->Prop),(∀ a,H a=none->S a)/\Sl K S H ρ σ/\t ρ Q3 /\ ∀ b H',Same H H'->Q3 b->Q b H'
noncomputable def SW (K:PySem.W.Frag) (t:WA):TA:=fun σ H Q=>∃ (S:Addr->Prop) (ρ:cD) (Q3:List D->Prop),(∀ a,H a=none->S a)/\Sl K S H ρ σ/\t ρ Q3 /\ ∀ vs H' ds,Same H H'->bA K S H' ds vs->Q3 ds->Q vs H'
noncomputable def SX (K:PySem.W.Frag) (t:WE):TE:=fun σ H Q=>∃ (S:Addr->Prop) (ρ:cD) (Q3:D->Prop),(∀ a,H a=none->S a)/\Sl K S H ρ σ/\t ρ Q3 /\
 ∀ p xs H' ds,H p=none->H' p=some (.lst xs)->Same H H'->bA K (fun a=>S a/\a≠p) H' ds xs->Q3 (.lst ds)->Q (.ref p) H'
noncomputable def dO (X:Cx) (e:Expr) (t:WE):Prop:=PE X e (lift X.K t)
noncomputable def JX (X:Cx) (e:Expr) (t:WE):Prop:=PE X e (SX X.K t)
noncomputable def yU (X:Cx) (e:Expr) (t:WT):Prop:=PT X e (liftT X.K t)
noncomputable def yV (X:Cx) (es:List Expr) (t:WA):Prop:=PA X es (SW X.K t)
section
variable {X:Cx}
theorem imp {e:Expr} {t t':TE} (h:PE X e t) (f:∀ σ H Q,t' σ H Q->t σ H Q):PE X e t':=fun pins s σ H Q I q=>h pins s σ H Q I (f σ H Q q)
theorem OD {e:Expr} {t t':TT} (h:PT X e t) (f:∀ σ H Q,t' σ H Q->t σ H Q):PT X e t':=fun pins s σ H Q I q=>h pins s σ H Q I (f σ H Q q)
theorem SY {e:List Expr} {t t':TA} (h:PA X e t) (f:∀ σ H Q,t' σ H Q->t σ H Q):PA X e t':=fun pos pins s σ H Q I q=>h pos pins s σ H Q I (f σ H Q q)
theorem bZ {H H':Hp} {S:Addr->Prop} (fc:∀ a,H a=none->S a) (s:Same H H'):∀ a,H' a=none->S a:=fun a e=>fc a (s.free e)
theorem JX.pe {e:Expr} {t:WE} (h:JX X e t):dO X e t:=imp h fun σ H Q aHD=>by
 obtain ⟨S,ρ,Q3,fc,sl,ht,k⟩:=aHD
 exact ⟨S,ρ,Q3,fc,sl,ht,fun p xs H' ds hp hp' s dn q=>k _ H' _ s (by simp only [Dn]; exact ⟨p,xs,rfl,hp',fc p hp,bA.fits (.mono fun _ z=>z.1) ds xs dn⟩) q⟩
noncomputable def W4 (i:Nat):WE:=fun ρ Q=>match ρ[i]? with
 | some (some d)=>Q d
 | _=>False
noncomputable def wC (d:D):WE:=fun _ Q=>Q d
theorem SZ {K:PySem.W.Frag} {i:Nat} {σ:L2.St} {H:Hp} {Q:VK} (h:lift K (W4 i) σ H Q):V8 i σ H Q:=by
 obtain ⟨S,ρ,Q3,fc,sl,ht,k⟩:=h
 unfold W4 at ht
 split at ht
 ·rename_i d e
  obtain ⟨v,e1,q⟩:=sl i d e
  exact ⟨v,e1,k v H d (Same.refl H) q ht⟩
 ·exact ht.elim
theorem x3 (i:Nat) {x:Str} {pos:Pos} (hN:X.N[i]? = some x:=by rfl) (hv:GU X.env.scope x:=by first | exact Or.inl rfl | exact Or.inr (Or.inl rfl) | exact Or.inr (Or.inr rfl)) (hd:(x == ("__debug__" : Str))=false:=by decide)
  (hcd:(x == ("__classdict__" : Str))=false:=by decide):dO X (.Name x pos) (W4 i):=imp (qU hN hv hd hcd) fun _ _ _=>SZ
theorem EK {K:PySem.W.Frag} {d:D} {v:V} {σ:L2.St} {H:Hp} {Q:VK} (hd:∀ S H,Dn K S H d v) (h:lift K (wC d) σ H Q):tC v σ H Q:=by
 obtain ⟨S,ρ,Q3,fc,sl,ht,k⟩:=h
 exact k v H d (Same.refl H) (hd S H) ht
theorem i3 {i:Int} {j pos}:dO X (.Constant (.int i) j pos) (wC (.int i)):=imp aAD fun _ _ _=>EK (fun _ _=>by simp only [Dn])
theorem b3 {b:Bool} {j pos}:dO X (.Constant (.bool b) j pos) (wC (.bl b)):=imp aCT fun _ _ _=>EK (fun _ _=>by simp only [Dn])
theorem n3 {j pos}:dO X (.Constant .none j pos) (wC .non):=imp aAE fun _ _ _=>EK (fun _ _=>by simp only [Dn])
theorem g3 {x:Str} {i:Int} {t:Tok} {pos:Pos} (hg:Gl X x) (hm:X.mg x=some (.int i t)) (hd:(x == ("__debug__" : Str))=false:=by decide):dO X (.Name x pos) (wC (.int i)) :=
 imp (V9 hg hm (v:=.int i) ⟨t,rfl⟩ hd) fun _ _ _=>EK (fun _ _=>by simp only [Dn])
noncomputable abbrev F2:=D->D->(D->Prop)->Prop
noncomputable def iQ (f:F2) (ta tb:WE):WE:=fun ρ Q=>ta ρ fun x=>tb ρ fun y=>f x y Q
noncomputable def O3 (K:PySem.W.Frag) (r:R2) (f:F2):Prop:=∀ (S:Addr->Prop) (H:Hp) (x y:V) (dx dy:D) (Q3:D->Prop) (Q:VK),(∀ a,H a=none->S a)->Dn K S H dx x->Dn K S H dy y->f dx dy Q3 ->
 (∀ v H' d,Same H H'->Dn K S H' d v->Q3 d->Q v H')->r x y H Q
theorem sL {K:PySem.W.Frag} {r:R2} {f:F2} {ta tb:WE} {σ:L2.St} {H:Hp} {Q:VK} (h3:O3 K r f) (h:lift K (iQ f ta tb) σ H Q):tOp r (lift K ta) (lift K tb) σ H Q:=by
 obtain ⟨S,ρ,Q3,fc,sl,ht,k⟩:=h
 refine ⟨S,ρ,_,fc,sl,ht,fun v H1 d s1 d1 q1=>?_⟩
 refine ⟨S,ρ,_,bZ fc s1,Sl.fits (.same s1) sl,q1,fun u H2 d2 s2 d2' q2=>?_⟩
 exact h3 S H2 v u d d2 Q3 Q (bZ fc (s1.trans s2)) (Dn.fits (.same s2) _ _ d1) d2' q2 fun v' H' d' s' dn' q'=>k v' H' d' ((s1.trans s2).trans s') dn' q'
theorem op3 {a b:Expr} {op:Operator} {pos:Pos} {r:R2} {f:F2} {ta tb:WE} (ho:lO X (binaryOp op) r) (h3:O3 X.K r f) (ha:dO X a ta) (hb:dO X b tb):dO X (.BinOp a op b pos) (iQ f ta tb) :=
 imp (R5 ho ha hb) fun _ _ _=>sL h3
noncomputable def EL (C:Int->Int->Prop) (g:Int->Int->D):F2
 | .int i,.int j,Q=>C i j/\Q (g i j)
 | _,_,_=>False
theorem EM {K:PySem.W.Frag} {C:Int->Int->Prop} {g:Int->Int->Int}:O3 K (rI C fun i j=>.int (g i j)) (EL C fun i j=>.int (g i j)):=by
 intro S H x y dx dy Q3 Q fc hx hy hf k
 cases dx<;>cases dy<;>try exact hf.elim
 simp only [Dn] at hx hy
 exact ⟨_,_,hx,hy,hf.1,k _ H _ (Same.refl H) (by simp only [Dn]) hf.2⟩
noncomputable def yW (g:Int->Int->D):F2
 | .int i,.int j,Q=>Q (g i j)
 | _,_,_=>False
theorem W5 {K:PySem.W.Frag} {g:Int->Int->Int}:O3 K (N0 fun i j=>.int (g i j)) (yW fun i j=>.int (g i j)):=by
 intro S H x y dx dy Q3 Q fc hx hy hf k
 cases dx<;>cases dy<;>try exact hf.elim
 simp only [Dn] at hx hy
 exact ⟨_,_,hx,hy,k _ H _ (Same.refl H) (by simp only [Dn]) hf⟩
noncomputable def aHF:F2:=yW fun i j=>.int (i - j)
noncomputable def aHG:F2:=EL (fun _ j=>0<j) fun i j=>.int (i % j)
noncomputable def aHH:F2:=EL aCb fun i j=>.int (i / j)
noncomputable def aHI:F2:=EL aCc fun i j=>.int (i ^ j.toNat)
section
variable {a b:Expr} {pos:Pos} {ta tb:WE}
theorem aHJ (ha:dO X a ta) (hb:dO X b tb):dO X (.BinOp a .Sub b pos) (iQ aHF ta tb):=op3 aAX W5 ha hb
theorem aHK (ha:dO X a ta) (hb:dO X b tb):dO X (.BinOp a .Mod b pos) (iQ aHG ta tb):=op3 aAY EM ha hb
theorem aHL (ha:dO X a ta) (hb:dO X b tb):dO X (.BinOp a .FloorDiv b pos) (iQ aHH ta tb):=op3 WK EM ha hb
theorem aHM (ha:dO X a ta) (hb:dO X b tb):dO X (.BinOp a .Pow b pos) (iQ aHI ta tb):=op3 aAZ EM ha hb
end
noncomputable def Y3 (K:PySem.W.Frag):R2:=fun x y H Q=>∃ a b xs ys,x=.ref a/\y=.ref b/\iP K H a xs/\iP K H b ys/\xs.length+ys.length<=sizeLine /\
 (xs=[]->Q (.ref b) H)/\(xs≠[]->ys=[]->Q (.ref a) H)/\(xs≠[]->ys≠[] -> ∀ p,H p=none->Q (.ref p) (upd H p (.tup (xs++ys))))
theorem S2 {prog:Program} {w:World} {A:Around} {E:Value->Shared->Prop} {s:Shared} {t b:Addr} {ws:List Value} {Q:Value->Shared->Prop} (ht:IsTup s.heap t #[]) (hb:IsTup s.heap b ws.toArray)
  (h1:Q (.ref b) s):wpAny (model prog w) A (binaryOp .Add (.ref t) (.ref b)) Q E s:=by
 obtain ⟨⟨cls,dd,data,sl⟩,ho,hc,n,hd⟩:=id ht
 obtain ⟨⟨cls2,dd2,data2,sl2⟩,ho2,hc2,n2,hd2⟩:=id hb
 simp only at hc hd hc2 hd2
 subst hc hd hc2 hd2
 exact concat_meets ⟨_,ho,rfl⟩ ⟨_,ho2,rfl⟩ noFill_tuple_add seq_tuple_add PySem.F.slot_tuple_add PySem.F.entry_tuple_add (PySem.F.args_tuple_add_2 _ _)
   (tuple_addW0 t b #[] ws.toArray n n2 dd dd2 sl sl2 (by simp)) ⟨ho,ho2,h1⟩
theorem S3:lO X (binaryOp .Add) (Y3 X.K):=by
 intro pins s σ H x y v u Q I rx ry h
 obtain ⟨a,b,xs,ys,rfl,rfl,ha,hb,hz,q0,q1,q2⟩:=h
 by_cases hx:xs=[]
 ·cases rx
  cases ry
  subst hx
  obtain ⟨its,r1,p1,_⟩:=I.tuple ha
  obtain ⟨its2,r2,p2,_⟩:=I.tuple hb
  cases r1
  exact S2 p1 p2 ⟨.ref b,H,I,rfl,q0 rfl⟩
 ·exact WW pins s σ H _ _ v u Q I rx ry ⟨a,b,xs,ys,rfl,rfl,ha,hb,hx,hz,q1 hx,q2 hx⟩
noncomputable def aAi:F2
 | .int i,.int j,Q=>Q (.int (i+j))
 | .lst a,.lst b,Q=>a.length+b.length<=sizeLine/\Q (.lst (a++b))
 | .tup a,.tup b,Q=>a.length+b.length<=sizeLine/\Q (.tup (a++b))
 | .str a,.str b,Q=>a.length+b.length<=sizeLine/\Q (.str (a++b))
 | _,_,_=>False
noncomputable def aCz (K:PySem.W.Frag):R2:=fun x y H Q=>(N0 fun i j=>.int (i+j)) x y H Q\/(aCt x y H Q\/(Y3 K x y H Q \/ ∃ i j,x=.str i/\y=.str j/\i.length+j.length<=sizeLine/\Q (.str (i++j)) H))
theorem aAj {K:PySem.W.Frag}:O3 K (aCz K) aAi:=by
 intro S H x y dx dy Q3 Q fc hx hy hf k
 cases dx with
 | int i =>
  cases dy with
  | int j=>simp only [Dn] at hx hy; exact .inl ⟨_,_,hx,hy,k _ H _ (Same.refl H) (by simp only [Dn]) hf⟩
  | _=>exact hf.elim
 | str i =>
  cases dy with
  | str j=>simp only [Dn] at hx hy; exact .inr (.inr (.inr ⟨_,_,hx,hy,hf.1,k _ H _ (Same.refl H) (by simp only [Dn]) hf.2⟩))
  | _=>exact hf.elim
 | lst ds =>
  cases dy with
  | lst es =>
   simp only [Dn] at hx hy
   obtain ⟨a,xs,rfl,ha,sa,da⟩:=hx
   obtain ⟨b,ys,rfl,hb,sb,db⟩:=hy
   refine .inr (.inl ⟨a,b,xs,ys,rfl,rfl,ha,hb,by rw [<- da.len,<- db.len]; exact hf.1,fun p hp=>k _ _ _ (aY hp) ?_ hf.2⟩)
   simp only [Dn]
   exact ⟨p,_,rfl,bJ,fc p hp,bA.fits (.same (aY hp)) _ _ (da.append db)⟩
  | _=>exact hf.elim
 | tup ds =>
  cases dy with
  | tup es =>
   simp only [Dn] at hx hy
   obtain ⟨a,xs,rfl,ha,da⟩:=hx
   obtain ⟨b,ys,rfl,hb,db⟩:=hy
   refine .inr (.inr (.inl ⟨a,b,xs,ys,rfl,rfl,iP.of ha,iP.of hb,by rw [<- da.len,<- db.len]; exact hf.1,fun e=>?_,fun _ e=>?_,fun _ _ p hp=>?_⟩))
   ·subst e
    have e2:ds=[]:=List.length_eq_zero_iff.mp da.len
    subst e2
    exact k _ H _ (Same.refl H) (by simp only [Dn]; exact ⟨b,ys,rfl,hb,db⟩) hf.2
   ·subst e
    have e2:es=[]:=List.length_eq_zero_iff.mp db.len
    subst e2
    have q:=hf.2
    rw [List.append_nil] at q
    exact k _ H _ (Same.refl H) (by simp only [Dn]; exact ⟨a,xs,rfl,ha,da⟩) q
   ·refine k _ _ _ (aY hp) ?_ hf.2
    simp only [Dn]
    exact ⟨p,_,rfl,bJ,bA.fits (.same (aY hp)) _ _ (da.append db)⟩
  | _=>exact hf.elim
 | _=>cases dy<;>exact hf.elim
theorem W6:lO X (binaryOp .Add) (aCz X.K):=lO.or aAW (lO.or SJ (lO.or S3 JO))
theorem aHN {a b:Expr} {pos:Pos} {ta tb:WE} (ha:dO X a ta) (hb:dO X b tb):dO X (.BinOp a .Add b pos) (iQ aAi ta tb):=op3 W6 aAj ha hb
noncomputable def aDA:F2
 | .lst a,.lst b,Q=>a.length+b.length<=sizeLine/\Q (.lst (a++b))
 | _,_,_=>False
theorem aDB {a b:Expr} {pos:Pos} {ta tb:WE} (ha:dO X a ta) (hb:dO X b tb):JX X (.BinOp a .Add b pos) (iQ aDA ta tb):=imp (R5 SJ ha hb) fun σ H Q h=>by
 obtain ⟨S,ρ,Q3,fc,sl,ht,k⟩:=h
 refine ⟨S,ρ,_,fc,sl,ht,fun v H1 d s1 d1 q1=>?_⟩
 refine ⟨S,ρ,_,bZ fc s1,Sl.fits (.same s1) sl,q1,fun u H2 d2 s2 d2' q2=>?_⟩
 cases d<;>cases d2<;>try exact q2.elim
 simp only [Dn] at d1 d2'
 obtain ⟨a,xs,rfl,ha,sa,da⟩:=d1
 obtain ⟨b,ys,rfl,hb,sb,db⟩:=d2'
 have da':=bA.fits (.same s2) _ _ da
 refine ⟨a,b,xs,ys,rfl,rfl,s2 _ _ ha,hb,by rw [<- da.len,<- db.len]; exact q2.1,fun p hp=>k p _ _ _ ((s1.trans s2).free hp) bJ ((s1.trans s2).trans (aY hp)) ?_ q2.2⟩
 exact bA.fits ((Fits.fresh hp).trans (.same (aY hp))) _ _ (da'.append db)
noncomputable def aHP:WA:=fun _ Q=>Q []
noncomputable def aDC (ta:WE) (t:WA):WA:=fun ρ Q=>ta ρ fun d=>t ρ fun ds=>Q (d::ds)
theorem aHQ:yV X [] aHP:=SY qW fun σ H Q aHR=>by obtain ⟨S,ρ,Q3,fc,sl,ht,k⟩:=aHR; exact k [] H [] (Same.refl H) bA.nil ht
theorem aDD {e:Expr} {es:List Expr} {te:WE} {t:WA} (ha:dO X e te) (hr:yV X es t) (hs:starEach (e::es) X.env=(false,eval e X.env)::starEach es X.env:=by rfl):yV X (e::es) (aDC te t) :=
 SY (jS ha hr hs) fun σ H Q aHS=>by
  obtain ⟨S,ρ,Q3,fc,sl,ht,k⟩:=aHS
  refine ⟨S,ρ,_,fc,sl,ht,fun v H1 d s1 d1 q1=>?_⟩
  refine ⟨S,ρ,_,bZ fc s1,Sl.fits (.same s1) sl,q1,fun us H2 ds s2 d2 q2=>?_⟩
  exact k _ H2 _ (s1.trans s2) (bA.cons (Dn.fits (.same s2) _ _ d1) d2) q2
noncomputable def aHT (t:WA):WE:=fun ρ Q=>t ρ fun ds=>ds.length<=sizeLine/\Q (.tup ds)
noncomputable def aHU (t:WA):WE:=fun ρ Q=>t ρ fun ds=>ds.length<=sizeLine/\Q (.lst ds)
theorem aHV {es:List Expr} {t:WA} {x1} {pos:Pos} (h:yV X es t):dO X (.Tuple es x1 pos) (aHT t):=imp (aA4 h) fun σ H Q aHW=>by
 obtain ⟨S,ρ,Q3,fc,sl,ht,k⟩:=aHW
 refine ⟨S,ρ,_,fc,sl,ht,fun vs H1 ds s1 d1 q1=>⟨by rw [<- d1.len]; exact q1.1,fun p hp=>k _ _ _ (s1.trans (aY hp)) ?_ q1.2⟩⟩
 simp only [Dn]
 exact ⟨p,_,rfl,bJ,bA.fits (.same (aY hp)) _ _ d1⟩
theorem aHX {es:List Expr} {t:WA} {pos:Pos} (h:yV X es t):JX X (.List es pos) (aHU t):=imp (aA5 h) fun σ H Q aHY=>by
 obtain ⟨S,ρ,Q3,fc,sl,ht,k⟩:=aHY
 refine ⟨S,ρ,_,fc,sl,ht,fun vs H1 ds s1 d1 q1=>⟨by rw [<- d1.len]; exact q1.1,fun p hp=>k p vs _ ds (s1.free hp) bJ (s1.trans (aY hp)) ?_ q1.2⟩⟩
 exact bA.fits ((Fits.fresh hp).trans (.same (aY hp))) _ _ d1
end
section
variable {X:Cx}
noncomputable def nZ (t:WE):WT:=fun ρ Q=>t ρ fun d=>match d with
 | .bl b=>Q b
 | _=>False
theorem B0 {K:PySem.W.Frag} {t:WE} {σ:L2.St} {H:Hp} {Q:Bool->Hp->Prop} (h:liftT K (nZ t) σ H Q):GZ (lift K t) σ H Q:=by
 obtain ⟨S,ρ,Q3,fc,sl,ht,k⟩:=h
 refine ⟨S,ρ,_,fc,sl,ht,fun v H1 d s1 d1 q1=>?_⟩
 cases d with
 | bl b=>simp only [Dn] at d1; exact ⟨b,d1,k b H1 s1 q1⟩
 | _=>exact q1.elim
theorem yX {t t':TE} {σ:L2.St} {H:Hp} {Q:Bool->Hp->Prop} (f:∀ σ H Q,t' σ H Q->t σ H Q) (h:GZ t' σ H Q):GZ t σ H Q:=f σ H _ h
theorem W7 {a b:Expr} {op:CmpOp} {pos:Pos} {r:R2} {f:F2} {ta tb:WE} (ho:lO X (compareOp op) r) (h3:O3 X.K r f) (ha:dO X a ta) (hb:dO X b tb) (hm:behindInMarks op b=false):dO X (.Compare a [op] [b] pos) (iQ f ta tb) :=
 imp (WL ho ha hb hm) fun _ _ _=>sL h3
theorem yY {a b:Expr} {op:CmpOp} {pos:Pos} {r:R2} {f:F2} {ta tb:WE} (ho:lO X (compareOp op) r) (h3:O3 X.K r f) (ha:dO X a ta) (hb:dO X b tb) (hm:behindInMarks op b=false):yU X (.Compare a [op] [b] pos) (nZ (iQ f ta tb)) :=
 OD (WM ho ha hb hm) fun _ _ _ h=>yX (fun _ _ _=>sL h3) (B0 h)
theorem t6 {K:PySem.W.Frag} {g:Int->Int->Bool}:O3 K (N0 fun i j=>.bl (g i j)) (yW fun i j=>.bl (g i j)):=by
 intro S H x y dx dy Q3 Q fc hx hy hf k
 cases dx<;>cases dy<;>try exact hf.elim
 simp only [Dn] at hx hy
 exact ⟨_,_,hx,hy,k _ H _ (Same.refl H) (by simp only [Dn]) hf⟩
noncomputable def S4:D->D->Bool
 | .non,.non=>true | .non,.int _=>true | .int _,.non=>true | .non,.bl _=>true | .bl _,.non=>true | .non,.str _=>true | .str _,.non=>true
 | .int _,.int _=>true | .bl _,.bl _=>true | .str _,.str _=>true | .int _,.str _=>true | .str _,.int _=>true | .bl _,.str _=>true | .str _,.bl _=>true
 | _,_=>false
noncomputable def eqS:D->D->Bool
 | .non,.non=>true
 | .int i,.int j=>decide (i=j)
 | .bl i,.bl j=>decide (i=j)
 | .str i,.str j=>decide (i=j)
 | _,_=>false
noncomputable def W8:F2:=fun x y Q=>S4 x y=true/\Q (.bl (eqS x y))
noncomputable def aAk:F2:=fun x y Q=>S4 x y=true/\Q (.bl (!eqS x y))
theorem MS {K:PySem.W.Frag} {S:Addr->Prop} {H:Hp} {x y:V} {dx dy:D} (hx:Dn K S H dx x) (hy:Dn K S H dy y) (h:S4 dx dy=true):aA1 x y=true/\decide (x=y)=eqS dx dy:=by
 cases dx<;>first
  | (exact absurd (show false=true from h) Bool.false_ne_true)
  | skip
 all_goals (cases dy<;>first
  | (exact absurd (show false=true from h) Bool.false_ne_true)
  | (simp only [Dn] at hx hy; subst hx; subst hy; exact ⟨rfl,by first | exact D7 | exact JM | exact D8 | exact decide_eq_false (fun h=>by cases h) | exact decide_eq_true rfl⟩))
theorem S5 {K:PySem.W.Frag}:O3 K rEq W8:=by
 intro S H x y dx dy Q3 Q fc hx hy hf k
 obtain ⟨h1,h2⟩:=MS hx hy hf.1
 exact ⟨h1,k _ H _ (Same.refl H) (by simp only [Dn]; rw [h2]) hf.2⟩
theorem aAl {K:PySem.W.Frag}:O3 K rNe aAk:=by
 intro S H x y dx dy Q3 Q fc hx hy hf k
 obtain ⟨h1,h2⟩:=MS hx hy hf.1
 exact ⟨h1,k _ H _ (Same.refl H) (by simp only [Dn]; rw [h2]) hf.2⟩
noncomputable def allI:List D->Bool
 | []=>true
 | .int _::r=>allI r
 | _::_=>false
noncomputable def AQ (i:Int):List D->Bool
 | []=>false
 | .int j::r=>j == i||AQ i r
 | _::r=>AQ i r
theorem B1:∀ ns:List Int,allI (ns.map D.int)=true
 | []=>rfl
 | n::ns=>by rw [List.map_cons]; exact B1 ns
theorem B2 (i:Int):∀ ns:List Int,AQ i (ns.map D.int)=ns.contains i
 | []=>rfl
 | n::ns=>by
  rw [List.map_cons,AQ,B2 i ns,List.contains_cons]
  congr 1
  exact Bool.beq_comm
theorem EN:∀ {ds:List D},allI ds=true -> ∃ ns:List Int,ds=ns.map D.int
 | [],_=>⟨[],rfl⟩
 | .int n::r,h=>by
  obtain ⟨ns,e⟩:=EN (ds:=r) h
  exact ⟨n::ns,by rw [e]; rfl⟩
 | .non::r,h=>absurd (show false=true from h) Bool.false_ne_true
 | .bl _::r,h=>absurd (show false=true from h) Bool.false_ne_true
 | .str _::r,h=>absurd (show false=true from h) Bool.false_ne_true
 | .tup _::r,h=>absurd (show false=true from h) Bool.false_ne_true
 | .lst _::r,h=>absurd (show false=true from h) Bool.false_ne_true
 | .nN _::r,h=>absurd (show false=true from h) Bool.false_ne_true
 | .kR _ _::r,h=>absurd (show false=true from h) Bool.false_ne_true
 | .fC _ _ _::r,h=>absurd (show false=true from h) Bool.false_ne_true
noncomputable def inF (neg:Bool):F2
 | .int i,.tup ds,Q=>allI ds=true/\Q (.bl (if neg then !AQ i ds else AQ i ds))
 | .int i,.lst ds,Q=>allI ds=true/\Q (.bl (if neg then !AQ i ds else AQ i ds))
 | _,_,_=>False
theorem yZ (i:Int):∀ ns:List Int,inV (.int i) (ns.map V.int)=AQ i (ns.map D.int)
 | []=>rfl
 | n::ns=>by
  have e:=yZ i ns
  unfold inV at e ⊢
  rw [List.map_cons,List.map_cons,List.any_cons,AQ,e]
  rfl
theorem t7:∀ ns:List Int,(ns.map V.int).all sJ=true
 | []=>rfl
 | n::ns=>by rw [List.map_cons,List.all_cons,t7 ns]; rfl
theorem Y4 {K:PySem.W.Frag} {neg:Bool}:O3 K (rIn K neg) (inF neg):=by
 intro S H x y dx dy Q3 Q fc hx hy hf k
 cases dx with
 | int i =>
  simp only [Dn] at hx
  subst hx
  cases dy with
  | tup ds =>
   simp only [Dn] at hy
   obtain ⟨a,xs,rfl,ha,da⟩:=hy
   obtain ⟨h1,h2⟩:=hf
   obtain ⟨ns,rfl⟩:=EN h1
   have e:=bA.ints.mp da
   subst e
   refine ⟨a,_,rfl,.inr (iP.of ha),rfl,t7 ns,k _ H _ (Same.refl H) ?_ h2⟩
   simp only [Dn]
   rw [yZ]
  | lst ds =>
   simp only [Dn] at hy
   obtain ⟨a,xs,rfl,ha,_,da⟩:=hy
   obtain ⟨h1,h2⟩:=hf
   obtain ⟨ns,rfl⟩:=EN h1
   have e:=bA.ints.mp da
   subst e
   refine ⟨a,_,rfl,.inl (gB.of ha),rfl,t7 ns,k _ H _ (Same.refl H) ?_ h2⟩
   simp only [Dn]
   rw [yZ]
  | _=>exact hf.elim
 | _=>cases dy<;>exact hf.elim
section
variable {a b:Expr} {pos:Pos} {ta tb:WE}
noncomputable def ltF:F2:=yW fun i j=>.bl (decide (i<j))
noncomputable def gtF:F2:=yW fun i j=>.bl (decide (i>j))
noncomputable def geF:F2:=yW fun i j=>.bl (decide (i >= j))
theorem gt3 (ha:dO X a ta) (hb:dO X b tb):dO X (.Compare a [.Gt] [b] pos) (iQ gtF ta tb):=W7 YU t6 ha hb (m9 _)
theorem aH0 (ha:dO X a ta) (hb:dO X b tb):dO X (.Compare a [.Eq] [b] pos) (iQ W8 ta tb):=W7 YS S5 ha hb (m9 _)
theorem in3 (ha:dO X a ta) (hb:dO X b tb) (hm:behindInMarks .In b=false:=by with_unfolding_all rfl):dO X (.Compare a [.In] [b] pos) (iQ (inF false) ta tb):=W7 N7 Y4 ha hb hm
theorem aH1 (ha:dO X a ta) (hb:dO X b tb):yU X (.Compare a [.Lt] [b] pos) (nZ (iQ ltF ta tb)):=yY YT t6 ha hb (m9 _)
theorem aH2 (ha:dO X a ta) (hb:dO X b tb):yU X (.Compare a [.Gt] [b] pos) (nZ (iQ gtF ta tb)):=yY YU t6 ha hb (m9 _)
theorem aH3 (ha:dO X a ta) (hb:dO X b tb):yU X (.Compare a [.GtE] [b] pos) (nZ (iQ geF ta tb)):=yY aCf t6 ha hb (m9 _)
theorem aDE (ha:dO X a ta) (hb:dO X b tb):yU X (.Compare a [.Eq] [b] pos) (nZ (iQ W8 ta tb)):=yY YS S5 ha hb (m9 _)
theorem aDF (ha:dO X a ta) (hb:dO X b tb):yU X (.Compare a [.NotEq] [b] pos) (nZ (iQ aAk ta tb)):=yY aCd aAl ha hb (m9 _)
theorem aDG (ha:dO X a ta) (hb:dO X b tb) (hm:behindInMarks .NotIn b=false:=by with_unfolding_all rfl):yU X (.Compare a [.NotIn] [b] pos) (nZ (iQ (inF true) ta tb)):=yY EG Y4 ha hb hm
end
noncomputable def isD:D->Bool
 | .non=>true
 | _=>false
noncomputable def W9:F2:=fun x y Q=>isD y=true/\Q (.bl (isD x))
theorem S6 {K:PySem.W.Frag}:O3 K (fun x y H Q=>y=.non/\Q (.bl (decide (x=.non))) H) W9:=by
 intro S H x y dx dy Q3 Q fc hx hy hf k
 obtain ⟨h1,h2⟩:=hf
 cases dy<;>try exact absurd (show false=true from h1) Bool.false_ne_true
 simp only [Dn] at hy
 refine ⟨hy,k _ H _ (Same.refl H) ?_ h2⟩
 cases dx<;>simp only [Dn] at hx ⊢
 all_goals first
  | (subst hx; simp [isD])
  | (obtain ⟨a,xs,rfl,_⟩:=hx; simp [isD])
  | (obtain ⟨a,_,xs,rfl,_⟩:=hx; simp [isD])
  | (obtain ⟨a,rfl,_⟩:=hx; simp [isD])
theorem aDH {a b:Expr} {pos:Pos} {ta tb:WE} (ha:dO X a ta) (hb:dO X b tb):yU X (.Compare a [.Is] [b] pos) (nZ (iQ W9 ta tb)):=yY R6 S6 ha hb (m9 _)
theorem aH4 {a b:Expr} {pos:Pos} {ta tb:WE} (ha:dO X a ta) (hb:dO X b tb):dO X (.Compare a [.Is] [b] pos) (iQ W9 ta tb):=W7 R6 S6 ha hb (m9 _)
noncomputable def aDI (t:WT):WT:=fun ρ Q=>t ρ fun b=>Q (!b)
noncomputable def aDJ (t u:WT):WT:=fun ρ Q=>t ρ fun b=>if b=true then u ρ Q else Q false
noncomputable def aH5 (t u:WT):WT:=fun ρ Q=>t ρ fun b=>if b=true then Q true else u ρ Q
noncomputable def PZ (X:Cx) (e:Expr) (t:WT):Prop:=PW X e (liftT X.K t)
theorem aAm {e:Expr} {t t':TT} (h:PW X e t) (f:∀ σ H Q,t' σ H Q->t σ H Q):PW X e t':=fun wh pins s σ H Q I q=>h wh pins s σ H Q I (f σ H Q q)
section
variable {a b:Expr} {rest:List Expr} {pos:Pos} {ta tb:WT}
theorem PZ.pt {e:Expr} {t:WT} (h:PZ X e t):yU X e t:=PW.pt h
theorem aDK (ha:yU X a ta):yU X (.UnaryOp .Not a pos) (aDI ta):=OD (aAI ha) fun σ H Q aH6=>by obtain ⟨S,ρ,Q3,fc,sl,ht,k⟩:=aH6; exact ⟨S,ρ,_,fc,sl,ht,fun b H1 s1 q1=>k (!b) H1 s1 q1⟩
theorem aH7 (ha:yU X a ta):PZ X (.BoolOp .And [a] pos) ta:=WC ha
theorem or1 (ha:yU X a ta):PZ X (.BoolOp .Or [a] pos) ta:=aAG ha
theorem aDL (ha:yU X a ta) (hb:PZ X (.BoolOp .And (b::rest) pos) tb):PZ X (.BoolOp .And (a::b::rest) pos) (aDJ ta tb):=aAm (aAH ha hb) fun σ H Q aH8=>by
 obtain ⟨S,ρ,Q3,fc,sl,ht,k⟩:=aH8
 refine ⟨S,ρ,_,fc,sl,ht,fun c H1 s1 q1=>?_⟩
 cases c with
 | true=>rw [if_pos rfl] at q1 ⊢; exact ⟨S,ρ,Q3,bZ fc s1,Sl.fits (.same s1) sl,q1,fun b' H2 s2 q2=>k b' H2 (s1.trans s2) q2⟩
 | false=>rw [if_neg Bool.false_ne_true] at q1 ⊢; exact k false H1 s1 q1
theorem aH9 (ha:yU X a ta) (hb:PZ X (.BoolOp .Or (b::rest) pos) tb):PZ X (.BoolOp .Or (a::b::rest) pos) (aH5 ta tb):=aAm (aCV ha hb) fun σ H Q aHa=>by
 obtain ⟨S,ρ,Q3,fc,sl,ht,k⟩:=aHa
 refine ⟨S,ρ,_,fc,sl,ht,fun c H1 s1 q1=>?_⟩
 cases c with
 | false=>rw [if_neg Bool.false_ne_true] at q1 ⊢; exact ⟨S,ρ,Q3,bZ fc s1,Sl.fits (.same s1) sl,q1,fun b' H2 s2 q2=>k b' H2 (s1.trans s2) q2⟩
 | true=>rw [if_pos rfl] at q1 ⊢; exact k true H1 s1 q1
end
noncomputable def aHb (ta tb:WE):WE:=fun ρ Q=>ta ρ fun x=>match x with
 | .bl true=>tb ρ Q
 | .bl false=>Q (.bl false)
 | _=>False
noncomputable def aHc (ta:WE):WE:=fun ρ Q=>ta ρ fun x=>match x with
 | .bl b=>Q (.bl (!b))
 | _=>False
noncomputable def wIf (t:WT) (ta tb:WE):WE:=fun ρ Q=>t ρ fun b=>if b=true then ta ρ Q else tb ρ Q
section
variable {a b c:Expr} {rest:List Expr} {pos:Pos} {ta tb:WE} {tc:WT}
theorem aHd {op} (ha:dO X a ta):dO X (.BoolOp op [a] pos) ta:=aAJ ha
theorem aHe (ha:dO X a ta) (hb:dO X (.BoolOp .And (b::rest) pos) tb):dO X (.BoolOp .And (a::b::rest) pos) (aHb ta tb):=imp (aAK ha hb) fun σ H Q aHf=>by
 obtain ⟨S,ρ,Q3,fc,sl,ht,k⟩:=aHf
 refine ⟨S,ρ,_,fc,sl,ht,fun v H1 d s1 d1 q1=>?_⟩
 cases d with
 | bl c =>
  simp only [Dn] at d1
  refine ⟨c,d1,?_⟩
  cases c with
  | true=>rw [if_pos rfl]; exact ⟨S,ρ,Q3,bZ fc s1,Sl.fits (.same s1) sl,q1,fun v' H2 d' s2 d2 q2=>k v' H2 d' (s1.trans s2) d2 q2⟩
  | false=>rw [if_neg Bool.false_ne_true]; exact k _ H1 (.bl false) s1 (by simp only [Dn]) q1
 | _=>exact q1.elim
theorem aHg (ha:dO X a ta):dO X (.UnaryOp .Not a pos) (aHc ta):=imp (aAL ha) fun σ H Q aHh=>by
 obtain ⟨S,ρ,Q3,fc,sl,ht,k⟩:=aHh
 refine ⟨S,ρ,_,fc,sl,ht,fun v H1 d s1 d1 q1=>?_⟩
 cases d with
 | bl c=>simp only [Dn] at d1; exact ⟨c,d1,k _ H1 (.bl (!c)) s1 (by simp only [Dn]) q1⟩
 | _=>exact q1.elim
theorem if3 (hc:yU X c tc) (ha:dO X a ta) (hb:dO X b tb):dO X (.IfExp c a b pos) (wIf tc ta tb):=imp (RX hc ha hb) fun σ H Q aHi=>by
 obtain ⟨S,ρ,Q3,fc,sl,ht,k⟩:=aHi
 refine ⟨S,ρ,_,fc,sl,ht,fun c H1 s1 q1=>?_⟩
 cases c with
 | true=>rw [if_pos rfl] at q1 ⊢; exact ⟨S,ρ,Q3,bZ fc s1,Sl.fits (.same s1) sl,q1,fun v' H2 d' s2 d2 q2=>k v' H2 d' (s1.trans s2) d2 q2⟩
 | false=>rw [if_neg Bool.false_ne_true] at q1 ⊢; exact ⟨S,ρ,Q3,bZ fc s1,Sl.fits (.same s1) sl,q1,fun v' H2 d' s2 d2 q2=>k v' H2 d' (s1.trans s2) d2 q2⟩
noncomputable def aHj (ta:WE):WE:=fun ρ Q=>ta ρ fun x=>match x with
 | .int i=>Q (.int (-i))
 | _=>False
theorem aHk (ha:dO X a ta):dO X (.UnaryOp .USub a pos) (aHj ta):=imp (aC9 aA0 ha) fun σ H Q aHl=>by
 obtain ⟨S,ρ,Q3,fc,sl,ht,k⟩:=aHl
 refine ⟨S,ρ,_,fc,sl,ht,fun v H1 d s1 d1 q1=>?_⟩
 cases d with
 | int i=>simp only [Dn] at d1; exact ⟨i,d1,k _ H1 (.int (-i)) s1 (by simp only [Dn]) q1⟩
 | _=>exact q1.elim
end
noncomputable def JY (f g:F2) (ta tb tc:WE):WE:=fun ρ Q=>ta ρ fun x=>tb ρ fun y=>f x y fun z=>match z with
 | .bl true=>tc ρ fun u=>g y u Q
 | .bl false=>Q (.bl false)
 | _=>False
theorem JZ {K:PySem.W.Frag} {r r':R2} {f g:F2} {ta tb tc:WE} {σ:L2.St} {H:Hp} {Q:VK} (h1:O3 K r f) (h2:O3 K r' g) (h:lift K (JY f g ta tb tc) σ H Q):R7 r r' (lift K ta) (lift K tb) (lift K tc) σ H Q:=by
 obtain ⟨S,ρ,Q3,fc,sl,ht,k⟩:=h
 refine ⟨S,ρ,_,fc,sl,ht,fun v H1 d s1 d1 q1=>?_⟩
 refine ⟨S,ρ,_,bZ fc s1,Sl.fits (.same s1) sl,q1,fun u H2 e s2 e1 q2=>?_⟩
 refine h1 S H2 v u d e _ _ (bZ fc (s1.trans s2)) (Dn.fits (.same s2) _ _ d1) e1 q2 fun z H3 dz s3 dz1 q3=>?_
 cases dz with
 | bl c =>
  simp only [Dn] at dz1
  refine ⟨c,dz1,?_⟩
  cases c with
  | false=>rw [if_neg Bool.false_ne_true]; exact k _ H3 (.bl false) ((s1.trans s2).trans s3) (by simp only [Dn]) q3
  | true =>
   rw [if_pos rfl]
   refine ⟨S,ρ,_,bZ fc ((s1.trans s2).trans s3),Sl.fits (.same ((s1.trans s2).trans s3)) sl,q3,fun w' H4 dw s4 dw1 q4=>?_⟩
   exact h2 S H4 u w' e dw Q3 Q (bZ fc (((s1.trans s2).trans s3).trans s4)) (Dn.fits (.same (s3.trans s4)) _ _ e1) dw1 q4 fun v' H5 d' s5 d5 q5=>k v' H5 d' ((((s1.trans s2).trans s3).trans s4).trans s5) d5 q5
 | _=>exact q3.elim
theorem XA {a b c:Expr} {op op':CmpOp} {pos:Pos} {r r':R2} {f g:F2} {ta tb tc:WE} (ho:lO X (compareOp op) r) (ho':lO X (compareOp op') r') (h1:O3 X.K r f) (h2:O3 X.K r' g) (ha:dO X a ta) (hb:dO X b tb) (hc:dO X c tc)
  (hm:lastMarks [op,op'] [b,c]=false:=by with_unfolding_all rfl):yU X (.Compare a [op,op'] [b,c] pos) (nZ (JY f g ta tb tc)):=OD (R8 ho ho' ha hb hc hm) fun _ _ _ h=>yX (fun _ _ _=>JZ h1 h2) (B0 h)
noncomputable def ixF:F2
 | .lst ds,.int i,Q=>(match u4 ds i with | some d=>Q d | none=>False)
 | .tup ds,.int i,Q=>(match u4 ds i with | some d=>Q d | none=>False)
 | .nN ns,.int i,Q=>(match u4 ns i with | some n=>Q (.int n) | none=>False)
 | _,_,_=>False
theorem bA.at {K:PySem.W.Frag} {S:Addr->Prop} {H:Hp} {ds:List D} {xs:List V} {i:Int} {d:D} (h:bA K S H ds xs) (e:u4 ds i=some d):∃ v,u4 xs i=some v/\Dn K S H d v:=by
 unfold u4 at e ⊢
 rw [<- h.len]
 cases q:N6 ds.length i with
 | none=>rw [q] at e; cases e
 | some j =>
  rw [q] at e
  obtain ⟨v,e1,dn⟩:=h.get (i:=j) (d:=d) e
  exact ⟨v,e1,dn⟩
theorem XB {α β:Type} (f:α->β) (xs:List α) (i:Int):u4 (xs.map f) i=(u4 xs i).map f:=by
 unfold u4
 rw [List.length_map]
 cases N6 xs.length i with
 | none=>rfl
 | some j=>simp
theorem aDM {K:PySem.W.Frag}:O3 K (fun x y H Q=>aCn K x y H Q\/aCo K x y H Q) ixF:=by
 intro S H x y dx dy Q3 Q fc hx hy hf k
 cases dx with
 | lst ds =>
  cases dy with
  | int i =>
   simp only [Dn] at hx hy
   obtain ⟨a,xs,rfl,ha,sa,da⟩:=hx
   have hf:(match u4 ds i with | some d=>Q3 d | none=>False):=hf
   cases e:u4 ds i with
   | none=>rw [e] at hf; exact hf.elim
   | some d =>
    rw [e] at hf
    obtain ⟨v,e1,dv⟩:=da.at e
    exact .inl ⟨a,xs,i,v,rfl,hy,gB.of ha,e1,k v H d (Same.refl H) dv hf⟩
  | _=>exact hf.elim
 | tup ds =>
  cases dy with
  | int i =>
   simp only [Dn] at hx hy
   obtain ⟨a,xs,rfl,ha,da⟩:=hx
   have hf:(match u4 ds i with | some d=>Q3 d | none=>False):=hf
   cases e:u4 ds i with
   | none=>rw [e] at hf; exact hf.elim
   | some d =>
    rw [e] at hf
    obtain ⟨v,e1,dv⟩:=da.at e
    exact .inr ⟨a,xs,i,v,rfl,hy,(iP.of ha),e1,k v H d (Same.refl H) dv hf⟩
  | _=>exact hf.elim
 | nN ns =>
  cases dy with
  | int i =>
   simp only [Dn] at hx hy
   obtain ⟨a,rfl,ha⟩:=hx
   have hf:(match u4 ns i with | some n=>Q3 (.int n) | none=>False):=hf
   cases e:u4 ns i with
   | none=>rw [e] at hf; exact hf.elim
   | some n =>
    rw [e] at hf
    exact .inl ⟨a,_,i,.int n,rfl,hy,ha.sq,by rw [XB,e]; rfl,k _ H (.int n) (Same.refl H) (by simp only [Dn]) hf⟩
  | _=>exact hf.elim
 | _=>cases dy<;>exact hf.elim
theorem ix3 {a b:Expr} {pos:Pos} {ta tb:WE} (ha:dO X a ta) (hb:dO X b tb) (hs:ED b:=by intro _ _; rfl):dO X (.Subscript a b pos) (iQ ixF ta tb) :=
 imp (aCm (WY.or aAb) ha hb hs) fun _ _ _=>sL aDM
noncomputable abbrev F1:=List D->(D->Prop)->Prop
noncomputable def S7 (f:F1) (t:WA):WE:=fun ρ Q=>t ρ fun ds=>f ds Q
noncomputable def C3 (K:PySem.W.Frag) (r:List V->Hp->VK->Prop) (f:F1):Prop:=∀ (S:Addr->Prop) (H:Hp) (xs:List V) (ds:List D) (Q3:D->Prop) (Q:VK),(∀ a,H a=none->S a)->bA K S H ds xs->f ds Q3 ->
 (∀ v H' d,Same H H'->Dn K S H' d v->Q3 d->Q v H')->r xs H Q
noncomputable def C3F (K:PySem.W.Frag) (r:List V->Hp->VK->Prop) (f:F1):Prop:=∀ (S:Addr->Prop) (H:Hp) (xs:List V) (ds:List D) (Q3:D->Prop) (Q:VK),(∀ a,H a=none->S a)->bA K S H ds xs->f ds Q3 ->
 (∀ p ys H' es,H p=none->H' p=some (.lst ys)->Same H H'->bA K (fun a=>S a/\a≠p) H' es ys->Q3 (.lst es)->Q (.ref p) H')->r xs H Q
theorem MT {K:PySem.W.Frag} {r:List V->Hp->VK->Prop} {f:F1} {t:WA} {σ:L2.St} {H:Hp} {Q:VK} (h3:C3 K r f) (h:lift K (S7 f t) σ H Q):tCB r (SW K t) σ H Q:=by
 obtain ⟨S,ρ,Q3,fc,sl,ht,k⟩:=h
 refine ⟨S,ρ,_,fc,sl,ht,fun vs H1 ds s1 d1 q1=>?_⟩
 exact h3 S H1 vs ds Q3 Q (bZ fc s1) d1 q1 fun v H' d s' d' q'=>k v H' d (s1.trans s') d' q'
theorem S8 {K:PySem.W.Frag} {r:List V->Hp->VK->Prop} {f:F1} {t:WA} {σ:L2.St} {H:Hp} {Q:VK} (h3:C3F K r f) (h:SX K (S7 f t) σ H Q):tCB r (SW K t) σ H Q:=by
 obtain ⟨S,ρ,Q3,fc,sl,ht,k⟩:=h
 refine ⟨S,ρ,_,fc,sl,ht,fun vs H1 ds s1 d1 q1=>?_⟩
 exact h3 S H1 vs ds Q3 Q (bZ fc s1) d1 q1 fun p ys H' es hp hp' s' d' q'=>k p ys H' es (s1.free hp) hp' (s1.trans s') d' q'
theorem y1 {x:Str} {p pos:Pos} {e:Expr} {es:List Expr} {t:WA} {id:String} {r:List V->Hp->VK->Prop} {f:F1} (hc:jA X (.builtin id) r) (h3:C3 X.K r f) (hv:bootBuiltins x=some (.builtin id)) (hg:Gl X x) (hm:X.mg x=none) (ha:yV X (e::es) t) (hn:x ≠ "__name__" := by decide) (hdb:(x == ("__debug__" : Str))=false:=by decide)
  (he:starEach (e::es) X.env=(false,eval e X.env)::starEach es X.env:=by rfl) (hpl:(backTo pos (starEach es X.env)).any (·.1)=false:=by rfl):dO X (.Call (.Name x p) (e::es) [] pos) (S7 f t) :=
 imp (sH hc hg hm hv ha hn hdb he hpl) fun _ _ _=>MT h3
theorem XD {x:Str} {p pos:Pos} {e:Expr} {es:List Expr} {t:WA} {id:String} {r:List V->Hp->VK->Prop} {f:F1} (hc:jA X (.builtin id) r) (h3:C3F X.K r f) (hv:bootBuiltins x=some (.builtin id)) (hg:Gl X x) (hm:X.mg x=none) (ha:yV X (e::es) t) (hn:x ≠ "__name__" := by decide) (hdb:(x == ("__debug__" : Str))=false:=by decide)
  (he:starEach (e::es) X.env=(false,eval e X.env)::starEach es X.env:=by rfl) (hpl:(backTo pos (starEach es X.env)).any (·.1)=false:=by rfl):JX X (.Call (.Name x p) (e::es) [] pos) (S7 f t) :=
 imp (sH hc hg hm hv ha hn hdb he hpl) fun _ _ _=>S8 h3
theorem MU {x:Str} {p pos:Pos} {e:Expr} {es:List Expr} {t:WA} {T:String} {r:List V->Hp->VK->Prop} {f:F1} (hc:jA X (.type T) r) (h3:C3 X.K r f) (hv:bootBuiltins x=some (.type T)) (hg:Gl X x) (hm:X.mg x=none) (ha:yV X (e::es) t) (hn:x ≠ "__name__" := by decide) (hdb:(x == ("__debug__" : Str))=false:=by decide)
  (he:starEach (e::es) X.env=(false,eval e X.env)::starEach es X.env:=by rfl) (hpl:(backTo pos (starEach es X.env)).any (·.1)=false:=by rfl):dO X (.Call (.Name x p) (e::es) [] pos) (S7 f t) :=
 imp (pH hc hg hm hv ha hn hdb he hpl) fun _ _ _=>MT h3
noncomputable def J0:F1
 | [.lst ds],Q=>Q (.int ds.length)
 | [.tup ds],Q=>Q (.int ds.length)
 | [.nN ns],Q=>Q (.int ns.length)
 | _,_=>False
theorem aAn {K:PySem.W.Frag}:C3 K (fun xs H Q=>∃ p ys,xs=[.ref p]/\(gB K H p ys\/iP K H p ys)/\Q (.int ys.length) H) J0:=by
 intro S H xs ds Q3 Q fc hd hf k
 match ds,hf with
 | [.lst es],hf =>
  obtain ⟨v,r,rfl,h1,h2⟩:=hd.bW
  simp only [bA] at h2
  subst h2
  simp only [Dn] at h1
  obtain ⟨a,ys,rfl,ha,sa,da⟩:=h1
  exact ⟨a,ys,rfl,.inl (gB.of ha),k _ H _ (Same.refl H) (by simp only [Dn]; rw [da.len]) hf⟩
 | [.tup es],hf =>
  obtain ⟨v,r,rfl,h1,h2⟩:=hd.bW
  simp only [bA] at h2
  subst h2
  simp only [Dn] at h1
  obtain ⟨a,ys,rfl,ha,da⟩:=h1
  exact ⟨a,ys,rfl,.inr (iP.of ha),k _ H _ (Same.refl H) (by simp only [Dn]; rw [da.len]) hf⟩
 | [.nN ns],hf =>
  obtain ⟨v,r,rfl,h1,h2⟩:=hd.bW
  simp only [bA] at h2
  subst h2
  simp only [Dn] at h1
  obtain ⟨a,rfl,ha⟩:=h1
  exact ⟨a,_,rfl,.inl ha.sq,k _ H _ (Same.refl H) (by simp only [Dn]; rw [List.length_map]) hf⟩
theorem aHn {p pos:Pos} {e:Expr} {t:WA} (hm:X.mg "len" = none) (ha:yV X [e] t) (hg:Gl X "len" := by rfl)
  (he:starEach [e] X.env=(false,eval e X.env)::starEach [] X.env:=by rfl):dO X (.Call (.Name "len" p) [e] [] pos) (S7 J0 t):=y1 EH aAn PySem.boot_len hg hm ha (by decide) (by decide) he (by rfl)
noncomputable def J1:F1
 | [.lst ds],Q=>Q (.tup ds)
 | [.tup ds],Q=>Q (.tup ds)
 | _,_=>False
theorem S9 {K:PySem.W.Frag}:C3 K (fun xs H Q=>∃ p ys,xs=[.ref p]/\((gB K H p ys /\ ∀ l,H l=none->Q (.ref l) (upd H l (.tup ys)))\/(iP K H p ys/\Q (.ref p) H))) J1:=by
 intro S H xs ds Q3 Q fc hd hf k
 match ds,hf with
 | [.lst es],hf =>
  obtain ⟨v,r,rfl,h1,h2⟩:=hd.bW
  simp only [bA] at h2
  subst h2
  simp only [Dn] at h1
  obtain ⟨a,ys,rfl,ha,sa,da⟩:=h1
  refine ⟨a,ys,rfl,.inl ⟨gB.of ha,fun l hl=>k _ _ _ (aY hl) ?_ hf⟩⟩
  simp only [Dn]
  exact ⟨l,ys,rfl,bJ,bA.fits (.same (aY hl)) _ _ da⟩
 | [.tup es],hf =>
  obtain ⟨v,r,rfl,h1,h2⟩:=hd.bW
  simp only [bA] at h2
  subst h2
  have h1':=h1
  simp only [Dn] at h1
  obtain ⟨a,ys,rfl,ha,da⟩:=h1
  exact ⟨a,ys,rfl,.inr ⟨(iP.of ha),k _ H _ (Same.refl H) h1' hf⟩⟩
theorem aAo {p pos:Pos} {e:Expr} {t:WA} (hm:X.mg "tuple" = none) (hv:bootBuiltins "tuple" = some (.type "tuple")) (ha:yV X [e] t) (hg:Gl X "tuple" := by rfl)
  (he:starEach [e] X.env=(false,eval e X.env)::starEach [] X.env:=by rfl):dO X (.Call (.Name "tuple" p) [e] [] pos) (S7 J1 t):=MU AN S9 hv hg hm ha (by decide) (by decide) he (by rfl)
noncomputable abbrev Spec:=List D->(D->Prop)->Prop
noncomputable def sp3 (K:PySem.W.Frag) (R:Spec):Sp:=fun vs H Q _=>∃ (S:Addr->Prop) (ds:List D) (Q3:D->Prop),(∀ a,H a=none->S a)/\bA K S H ds vs/\R ds Q3 /\ ∀ v H' d,Same H H'->Dn K S H' d v->Q3 d->Q v H'
theorem aDN {k:Nat} {f:Addr} {fd:FuncData} {ps:List Str} {R:Spec} {x:Str} {p pos:Pos} {e:Expr} {es:List Expr} {t:WA} (F:aQ X.prog X.w X.K X.mg X.base cQ k f fd ps (sp3 X.K R)) (hr:kU k X.A) (hm:X.mg x=some (.ref f)) (hk:PySem.W.keepIn X.K (.ref f)=true) (hb:Binds X.K fd ps [])
  (ha:yV X (e::es) t) (hg:Gl X x:=by rfl) (hdb:(x == ("__debug__" : Str))=false:=by decide) (he:starEach (e::es) X.env=(false,eval e X.env)::starEach es X.env:=by rfl) (hpl:(backTo pos (starEach es X.env)).any (·.1)=false:=by rfl) :
  dO X (.Call (.Name x p) (e::es) [] pos) (S7 R t):=imp (D9 F hr hg hm hk hb .nil SL ha hdb he hpl) fun σ H Q aHo=>by
 obtain ⟨S,ρ,Q3,fc,sl,ht,k⟩:=aHo
 refine ⟨S,ρ,_,fc,sl,ht,fun vs H1 ds s1 d1 q1=>?_⟩
 show sp3 X.K R (vs++[]) H1 Q E0
 rw [List.append_nil]
 exact ⟨S,ds,Q3,bZ fc s1,d1,q1,fun v H' d s' d' q'=>k v H' d (s1.trans s') d' q'⟩
end
structure DE where
 nx:bF->Prop
 rt:D->Prop
 bk:bF->Prop:=fun _=>False
 ct:bF->Prop:=fun _=>False
 ex:Str->Prop:=fun _=>False
noncomputable abbrev WS:=DE->bF->Prop
structure aAp (X:Cx) (pins:List (Addr×Obj)) (H:Hp) (s:Shared) (e:Addr) (cls a0:Value) (P:List Addr):Prop where
 mem:e∈P
 free:∀ q∈P,H q=none
 new:∀ q∈P,X.s₀.heap.get? q=none
 fld:∀ q∈P,∃ o vs,s.heap.get? q=some o/\o.data=.fields vs
 pin:∀ q∈P,∀ p∈X.pn++pins,p.1≠q
 tr:(∃ oe vs,s.heap.get? e=some oe/\oe.cls=cls/\oe.data=.fields vs/\vs[1]? = some .none/\vs[0]? = some a0) \/
  (∃ oe vs T oT ts,s.heap.get? e=some oe/\(oe.cls=cls/\vs[0]? = some a0)/\oe.data=.fields vs/\vs[1]? = some (.ref T)/\T∈P/\T≠e/\s.heap.get? T=some oT/\oT.data=.fields ts/\ts[3]? = some .none)
noncomputable def XC (X:Cx) (c:Str) (H:Hp):Prop:=∃ C:Addr,X.mg c=some (.ref C) /\ ∀ (pins:List (Addr×Obj)) (σ:L2.St) (s:Shared) (e:Addr) (a0:Value) (P:List Addr),Inv X pins σ H s->aAp X pins H s e (.ref C) a0 P->X.xe (.ref e) s
structure aAq (K:PySem.W.Frag) (xc:Str->Hp->Prop) (n:Nat) (H₀:Hp) (S:Addr->Prop) (G:List (D×V)) (E:DE) (B:Ends):Prop where
 nx:∀ w σ H ρ,σ.length=n->ST K H₀ S w σ H ρ G->E.nx ρ->B.nx σ H
 rt:∀ v H d,Same H₀ H->Dn K S H d v->E.rt d->B.rt v H
 bk:∀ w σ H ρ,σ.length=n->ST K H₀ S w σ H ρ G->E.bk ρ->B.bk σ H
 ct:∀ w σ H ρ,σ.length=n->ST K H₀ S w σ H ρ G->E.ct ρ->B.ct σ H
 ex:∀ c H,Same H₀ H->E.ex c->xc c H
noncomputable def B3 (K:PySem.W.Frag) (xc:Str->Hp->Prop) (n:Nat) (t:WS):TS:=fun B σ H=>∃ (H₀:Hp) (S:Addr->Prop) (w:Nat->Addr) (ρ:bF) (G:List (D×V)) (E:DE),σ.length=n/\ST K H₀ S w σ H ρ G/\t E ρ/\aAq K xc n H₀ S G E B
noncomputable def G6 (X:Cx) (st:Stmt) (t:WS):Prop:=PS X st (B3 X.K (XC X) X.N.length t)
noncomputable def u6 (X:Cx) (st:List Stmt) (t:WS):Prop:=BR X st (B3 X.K (XC X) X.N.length t)
section
variable {X:Cx}
theorem nJ {e:Stmt} {t t':TS} (h:PS X e t) (f:∀ B σ H,t' B σ H->t B σ H):PS X e t':=fun pins s σ H B I q=>h pins s σ H B I (f B σ H q)
theorem G7 {e:List Stmt} {t t':TS} (h:BR X e t) (f:∀ B σ H,t' B σ H->t B σ H):BR X e t':=fun pins s σ H B I q=>h pins s σ H B I (f B σ H q)
noncomputable def aDO:WS:=fun E ρ=>E.nx ρ
noncomputable def aAr (t u:WS):WS:=fun E ρ=>t { E with nx:=u E } ρ
theorem aHp:u6 X [] aDO:=G7 WD fun B σ H aHq=>by obtain ⟨H₀,S,w,ρ,G,E,hl,st,ht,ok⟩:=aHq; exact ok.nx w σ H ρ hl st ht
theorem aHr {st:Stmt} {rest:List Stmt} {t u:WS} (h1:G6 X st t) (h2:u6 X rest u):u6 X (st::rest) (aAr t u):=G7 (yL h1 h2) fun B σ H aHs=>by
 obtain ⟨H₀,S,w,ρ,G,E,hl,sT,ht,ok⟩:=aHs
 exact ⟨H₀,S,w,ρ,G,{ E with nx:=u E },hl,sT,ht,⟨fun w' σ' H' ρ' hl' st' q=>⟨H₀,S,w',ρ',G,E,hl',st',q,ok⟩,ok.rt,ok.bk,ok.ct,ok.ex⟩⟩
theorem aDP {st:Stmt} {t:WS} (h1:G6 X st t):u6 X [st] t:=G7 (MJ h1) fun _ _ _ h=>h
noncomputable def aHt (t:WE):WS:=fun E ρ=>t (dR ρ) E.rt
theorem aHu {e:Expr} {t:WE} {pos:Pos} (h:dO X e t):G6 X (.Return (some e) pos) (aHt t):=nJ (RZ h) fun B σ H aHv=>by
 obtain ⟨H₀,S,w,ρ,G,E,hl,st,ht,ok⟩:=aHv
 exact ⟨S,dR ρ,E.rt,st.W3,st.all,ht,fun v H' d s' d' q'=>ok.rt v H' d (st.sm.trans s') d' q'⟩
noncomputable def aHw (c:WT) (t u:WS):WS:=fun E ρ=>c (dR ρ) fun b=>if b=true then t E ρ else u E ρ
theorem aHx {c:Expr} {a b:List Stmt} {pos:Pos} {tc:WT} {t u:WS} (hc:yU X c tc) (ha:u6 X a t) (hb:u6 X b u):G6 X (.If c a b pos) (aHw tc t u):=nJ (aC1 hc ha hb) fun B σ H aHy=>by
 obtain ⟨H₀,S,w,ρ,G,E,hl,st,ht,ok⟩:=aHy
 refine ⟨S,dR ρ,_,st.W3,st.all,ht,fun d H1 s1 q1=>?_⟩
 cases d with
 | true=>rw [if_pos rfl] at q1 ⊢; exact ⟨H₀,S,w,ρ,G,E,hl,st.same s1,q1,ok⟩
 | false=>rw [if_neg Bool.false_ne_true] at q1 ⊢; exact ⟨H₀,S,w,ρ,G,E,hl,st.same s1,q1,ok⟩
noncomputable def aAs (i:Nat) (t:WE):WS:=fun E ρ=>t (lI ρ) fun d=>E.nx (ρ.set i (.ro d))
noncomputable def aHz (i:Nat) (t:WE):WS:=fun E ρ=>t (lI ρ) fun d=>E.nx (ρ.set i (.ow d))
section
variable {i:Nat} {x:Str} {e:Expr} {t:WE} {pos pos':Pos}
theorem n0 {N:List Str} {i:Nat} {x:Str} (h:N[i]? = some x):i<N.length:=(List.getElem?_eq_some_iff.mp h).1
theorem aIA (hN:X.N.Nodup) (he:dO X e t) (hi:X.N[i]? = some x:=by rfl) (hx:Loc X.env.scope x:=by first | exact .inl rfl | exact .inr rfl) (hs:swapsWith e (some (.Name x pos')) pos.line X.env=pure false:=by rfl) (hf:X.fn x=true\/X.env.scope.names.lookup x=some .local:=by first | exact .inl rfl | exact .inr rfl) :
  G6 X (.Assign [.Name x pos'] e pos) (aAs i t):=nJ (t5 hN hi hx he hs hf) fun B σ H aIB=>by
 obtain ⟨H₀,S,w,ρ,G,E,hl,st,ht,ok⟩:=aIB
 exact ⟨_,lI ρ,_,st.SU,st.rd,ht,fun v H' d s' d' q'=>ok.nx w _ H' _ (by rw [List.length_set]; exact hl) ((st.same s').yT (by rw [hl]; exact n0 hi) d') q'⟩
theorem aIC (hN:X.N.Nodup) (he:JX X e t) (hi:X.N[i]? = some x:=by rfl) (hx:Loc X.env.scope x:=by first | exact .inl rfl | exact .inr rfl) (hs:swapsWith e (some (.Name x pos')) pos.line X.env=pure false:=by rfl) (hf:X.fn x=true\/X.env.scope.names.lookup x=some .local:=by first | exact .inl rfl | exact .inr rfl) :
  G6 X (.Assign [.Name x pos'] e pos) (aHz i t):=nJ (t5 hN hi hx he hs hf) fun B σ H aID=>by
 obtain ⟨H₀,S,w,ρ,G,E,hl,st,ht,ok⟩:=aID
 exact ⟨_,lI ρ,_,st.SU,st.rd,ht,fun p xs H' ds hp hp' s' d' q'=>ok.nx _ _ H' _ (by rw [List.length_set]; exact hl) (st.JW (d:=.lst ds) (by rw [hl]; exact n0 hi) s' hp ⟨xs,hp',d'⟩) q'⟩
end
noncomputable def n5 (N:List Str) (ds:List D):bF:=ds.map Sv.ro++List.replicate (N.length - ds.length) Sv.no
theorem TB {K:PySem.W.Frag} {H:Hp} {S:Addr->Prop} {N:List Str} {ds:List D} {vs:List V} (fc:∀ a,H a=none->S a) (h:bA K S H ds vs):ST K H S (fun _=>0) (L2.start N vs) H (n5 N ds) []:=by
 have no:∀ (i:Nat) (d:D),(n5 N ds)[i]?≠some (Sv.ow d):=fun i d e=>by
  unfold n5 at e
  by_cases hi:i<ds.length
  ·rw [List.getElem?_append_left (by simpa using hi),List.getElem?_map] at e
   cases q:ds[i]? with
   | none=>rw [q] at e; cases e
   | some a=>rw [q] at e; cases e
  ·rw [List.getElem?_append_right (by simpa using hi),List.getElem?_replicate] at e
   split at e<;>cases e
 have so:∀ a,S a->SO S (fun _=>0) (n5 N ds) a:=fun a s=>⟨s,fun i d e=>absurd e (no i d)⟩
 refine ⟨fc,Same.refl H,fun i d e=>absurd e (no i d),fun i j d e h1=>absurd h1 (no i d),fun i d e=>?_,fun g hg=>nomatch hg⟩
 unfold n5 at e
 by_cases hi:i<ds.length
 ·rw [List.getElem?_append_left (by simpa using hi),List.getElem?_map] at e
  cases q:ds[i]? with
  | none=>rw [q] at e; cases e
  | some a =>
   rw [q] at e
   cases e
   obtain ⟨v,e1,dv⟩:=h.get q
   refine ⟨v,?_,Dn.fits (.mono so) _ _ dv⟩
   unfold L2.start
   have hv:i<vs.length:=(List.getElem?_eq_some_iff.mp e1).1
   rw [List.getElem?_append_left (by simpa using hv),List.getElem?_map,e1]
   rfl
 ·rw [List.getElem?_append_right (by simpa using hi),List.getElem?_replicate] at e
  split at e<;>cases e
theorem aIE {P:Program} {w:World} {K:PySem.W.Frag} {mg:Str->Option Value} {base:Heap} {x qual:Str} {st:Stmt} {f:Addr} {fd:FuncData} {N ps:List Str} {k:Nat} {R:Spec} (F:l0 K x qual st f fd) (S:bB N ps (aH st)) (len:∀ ds Q,R ds Q->ds.length=ps.length)
  (hbody:∀ (cdv:Value) (A:Around) (outer:List Env) (s:Shared) (H:Hp) (E:XK),kU k (A.deeper (envOfC qual (aH st) s.heap.objs.size f cdv)) ->
   ∃ t:WS,u6 (EA cQ P w K mg base N qual (aH st) f cdv A outer s H E).nox (aZ st) t /\ ∀ ds Q,R ds Q->t { nx:=fun _=>Q .non,rt:=Q } (n5 N ds)):aQ P w K mg base cQ (k+1) f fd ps (sp3 K R):=by
 refine F.ok S (fun vs H Q E h=>?_) fun cdv A outer s H vs Q E hr h=>?_
 ·obtain ⟨S',ds,Q3,fc,dn,r,_⟩:=h
  rw [<- dn.len]
  exact len ds Q3 r
 ·obtain ⟨t,ht,hq⟩:=hbody cdv A outer s H E hr
  obtain ⟨S',ds,Q3,fc,dn,r,kk⟩:=h
  refine ⟨_,ht,H,S',fun _=>0,n5 N ds,[],{ nx:=fun _=>Q3 .non,rt:=Q3 },?_,TB fc dn,hq ds Q3 r,⟨fun w' σ' H' ρ' _ st' q=>?_,fun v H' d s' d' q=>kk v H' d s' d' q,fun _ _ _ _ _ _ q=>q,fun _ _ _ _ _ _ q=>q,fun _ _ _ q=>q.elim⟩⟩
  ·have hl:=len ds Q3 r
   have hl2:=dn.len
   have hp:ps.length<=N.length:=by have:=congrArg List.length S.pre; rw [List.length_take] at this; omega
   unfold L2.start
   show _=N.length
   rw [List.length_append,List.length_map,List.length_replicate]
   omega
  ·exact kk .non H' .non st'.sm (by simp only [Dn]) q
end
noncomputable abbrev WX:=bF->(bF->D->Prop)->Prop
noncomputable def TC (K:PySem.W.Frag) (n:Nat) (t:WX):TE:=fun σ H Q=>∃ (H₀:Hp) (S:Addr->Prop) (w:Nat->Addr) (ρ:bF) (G:List (D×V)) (Q3:bF->D->Prop),σ.length=n/\ST K H₀ S w σ H ρ G/\t ρ Q3 /\
 ∀ w' v H' ρ' d,ST K H₀ S w' σ H' ρ' G->Dn K (SO S w' ρ') H' d v->Q3 ρ' d->Q v H'
noncomputable def MV (X:Cx) (e:Expr) (t:WX):Prop:=PE X e (TC X.K X.N.length t)
noncomputable def aDQ (t:WE):WX:=fun ρ Q=>t (dR ρ) fun d=>d.IG=true/\Q ρ d
noncomputable def aAt (t:WE):WX:=fun ρ Q=>t (lI ρ) fun d=>Q ρ d
section
variable {X:Cx}
theorem px3 {e:Expr} {t:WE} (h:dO X e t):MV X e (aDQ t):=imp h fun σ H Q aIF=>by
 obtain ⟨H₀,S,w,ρ,G,Q3,hl,st,ht,k⟩:=aIF
 exact ⟨S,dR ρ,_,st.W3,st.all,ht,fun v H' d s' d' q'=>k w v H' ρ d (st.same s') (Dn.IG q'.1 d') q'.2⟩
theorem aIG {e:Expr} {t:WE} (h:dO X e t):MV X e (aAt t):=imp h fun σ H Q aIH=>by
 obtain ⟨H₀,S,w,ρ,G,Q3,hl,st,ht,k⟩:=aIH
 exact ⟨_,lI ρ,_,st.SU,st.rd,ht,fun v H' d s' d' q'=>k w v H' ρ d (st.same s') d' q'⟩
noncomputable def aDR (t:WX):WS:=fun E ρ=>t ρ fun ρ' _=>E.nx ρ'
theorem aDS {e:Expr} {t:WX} {pos:Pos} (he:MV X e t) (hs:swapsWith e none pos.line X.env=pure false:=by rfl):G6 X (.Expr e pos) (aDR t):=nJ (MK he hs) fun B σ H aII=>by
 obtain ⟨H₀,S,w,ρ,G,E,hl,st,ht,ok⟩:=aII
 exact ⟨H₀,S,w,ρ,G,_,hl,st,ht,fun w' v H' ρ' d st' d' q'=>ok.nx w' _ H' _ hl st' q'⟩
noncomputable def wM1 (i:Nat) (f:List D->D->(List D->D->Prop)->Prop) (t:WX):WX:=fun ρ Q=>(match ρ[i]? with | some (.ow (.lst _))=>True | _=>False)/\t ρ fun ρ' d=>match ρ'[i]? with
 | some (.ow (.lst ds))=>f ds d fun ds' r=>Q (ρ'.set i (.ow (.lst ds'))) r
 | _=>False
noncomputable def M3 (K:PySem.W.Frag) (r:V->List V->Hp->VK->Prop) (f:List D->D->(List D->D->Prop)->Prop):Prop:=∀ (S:Addr->Prop) (H:Hp) (p:Addr) (xs:List V) (ds:List D) (y:V) (d:D) (Q3:List D->D->Prop) (Q:VK),
 H p=some (.lst xs)->bA K S H ds xs->Dn K S H d y->f ds d Q3->(∀ ys ds' v d',bA K S H ds' ys->Dn K S H d' v->Q3 ds' d'->Q v (upd H p (.lst ys)))->r (.ref p) [y] H Q
theorem XE {K:PySem.W.Frag} {n i:Nat} {r:V->List V->Hp->VK->Prop} {f:List D->D->(List D->D->Prop)->Prop} {t:WX} {σ:L2.St} {H:Hp} {Q:VK} (h3:M3 K r f) (h:TC K n (wM1 i f t) σ H Q) :
  tBM K "list" r (V8 i) (YV (TC K n t) aCh) σ H Q:=by
 obtain ⟨H₀,S,w,ρ,G,Q3,hl,st,⟨h0,ht⟩,k⟩:=h
 split at h0
 ·rename_i ds e
  obtain ⟨a,b,c⟩:=st.own i _ e
  obtain ⟨xs,hp,dn⟩:=c
  refine ⟨_,a,.inl ⟨rfl,xs,gB.of hp⟩,H₀,S,w,ρ,G,_,hl,st,ht,fun w' v H' ρ' d st' d' q'=>?_⟩
  split at q'
  ·rename_i ds' e'
   obtain ⟨a',b',c'⟩:=st'.own i _ e'
   obtain ⟨xs',hp',dn'⟩:=c'
   have ew:w i=w' i:=by
    have z:=a.symm.trans a'
    have z1:=Option.some.inj (Option.some.inj z)
    injection z1
   rw [ew]
   refine h3 _ H' (w' i) xs' ds' v d _ Q hp' dn' d' q' fun ys ds2 v2 d2 MW dv2 q2=>?_
   have nS:¬ SO S w' ρ' (w' i):=fun ⟨_,z⟩=>z i _ e' rfl
   have F:Fits K (SO S w' ρ') (SO S w' ρ') H' (upd H' (w' i) (.lst ys)):=.upd (.inl ⟨_,hp'⟩) nS
   have so:∀ a,SO S w' ρ' a->SO S w' (ρ'.set i (.ow (.lst ds2))) a:=SO.mono fun j f hf=>by
    rcases get_set hf with ⟨hj,_,_⟩ | ⟨_,z⟩
    ·subst hj; exact ⟨_,e'⟩
    ·exact ⟨_,z⟩
   exact k w' v2 _ _ d2 (st'.write (d':=.lst ds2) e' ⟨ys,bJ,bA.fits F _ _ MW⟩) (Dn.fits (F.trans (.mono so)) _ _ dv2) q2
  ·exact q'.elim
 ·exact h0.elim
theorem m1 {i:Nat} {x:Str} {id:String} {name:Str} {e:Expr} {p apos cpos:Pos} {r:V->List V->Hp->VK->Prop} {f:List D->D->(List D->D->Prop)->Prop} {t:WX} (slot:Slot "list" name id) (hty:typeOf (.builtin id)=pure (.type "method_descriptor")) (hm:MtR X id r) (h3:M3 X.K r f) (he:MV X e t)
  (hN:X.N[i]? = some x:=by rfl) (hv:GU X.env.scope x:=by first | exact Or.inl rfl | exact Or.inr (Or.inl rfl) | exact Or.inr (Or.inr rfl)) (hd:(x == ("__debug__" : Str))=false:=by decide) (hcd:(x == ("__classdict__" : Str))=false:=by decide)
  (hbase:attributeBase (.Name x p) name X.env (eval (.Name x p) X.env)=eval (.Name x p) X.env:=by rfl)
  (hfew:((backTo cpos (starEach [e] X.env)).all (fun x=>!x.1)&&(backToKw cpos (keywordEach [] X.env)).all (fun x=>x.1.isSome)
   && decide ([e].length+([]:List Keyword).length+(if ([]:List Keyword).isEmpty then 0 else 1)<30))=true:=by rfl)
  (hline:(apos.endLine == cpos.line)=true:=by rfl) (hs:starEach [e] X.env=(false,eval e X.env)::starEach [] X.env:=by rfl) :
  MV X (.Call (.Attribute (.Name x p) name apos) [e] [] cpos) (wM1 i f t) :=
 imp (aCq PySem.F.plainAttrs_list slot hty hm (qU hN hv hd hcd) (jS he qW hs) hbase hfew hline hs (by rfl)) fun _ _ _ h=>XE h3 h
noncomputable def aAu:List D->D->(List D->D->Prop)->Prop:=fun ds d Q=>ds.length<sizeLine/\Q (ds++[d]) .non
theorem aAv {K:PySem.W.Frag}:M3 K MP aAu:=by
 intro S H p xs ds y d Q3 Q hp dn dy hf k
 exact ⟨p,xs,y,rfl,rfl,hp,by rw [<- dn.len]; exact hf.1,k _ _ _ _ (dn.append (bA.one dy)) (by simp only [Dn]) hf.2⟩
noncomputable def aAw:List D->D->(List D->D->Prop)->Prop
 | ds,.int k,Q=>(-(2 ^ 63)<=k/\k<2 ^ 63)/\(match N6 ds.length k with | some j=>(match ds[j]? with | some d=>Q (ds.eraseIdx j) d | none=>False) | none=>False)
 | _,_,_=>False
theorem aAx {K:PySem.W.Frag}:M3 K SH aAw:=by
 intro S H p xs ds y d Q3 Q hp dn dy hf k
 cases d with
 | int i =>
  simp only [Dn] at dy
  subst dy
  obtain ⟨⟨h1,h2⟩,hf⟩:=hf
  split at hf
  ·rename_i j ej
   split at hf
   ·rename_i dd ed
    obtain ⟨v,ev,dv⟩:=dn.get ed
    obtain ⟨g1,_⟩:=EC ej
    exact ⟨p,xs,i,j,v,rfl,rfl,hp,h1,h2,by rw [<- dn.len]; exact g1,ev,k _ _ _ _ (dn.erase j) dv hf⟩
   ·exact hf.elim
  ·exact hf.elim
 | _=>exact hf.elim
section
variable {i:Nat} {x:Str} {e:Expr} {p apos cpos:Pos} {t:WX}
theorem aIJ (he:MV X e t) (hN:X.N[i]? = some x:=by rfl) (hv:GU X.env.scope x:=by first | exact Or.inl rfl | exact Or.inr (Or.inl rfl) | exact Or.inr (Or.inr rfl)) (hd:(x == ("__debug__" : Str))=false:=by decide) (hcd:(x == ("__classdict__" : Str))=false:=by decide)
  (hbase:attributeBase (.Name x p) "append" X.env (eval (.Name x p) X.env)=eval (.Name x p) X.env:=by rfl)
  (hfew:((backTo cpos (starEach [e] X.env)).all (fun x=>!x.1)&&(backToKw cpos (keywordEach [] X.env)).all (fun x=>x.1.isSome)
   && decide ([e].length+([]:List Keyword).length+(if ([]:List Keyword).isEmpty then 0 else 1)<30))=true:=by rfl)
  (hline:(apos.endLine == cpos.line)=true:=by rfl) (hs:starEach [e] X.env=(false,eval e X.env)::starEach [] X.env:=by rfl) :
  MV X (.Call (.Attribute (.Name x p) "append" apos) [e] [] cpos) (wM1 i aAu t):=m1 PySem.F.slot_list_append PySem.F.type_list_append BY aAv he hN hv hd hcd hbase hfew hline hs
theorem aIK (he:MV X e t) (hN:X.N[i]? = some x:=by rfl) (hv:GU X.env.scope x:=by first | exact Or.inl rfl | exact Or.inr (Or.inl rfl) | exact Or.inr (Or.inr rfl)) (hd:(x == ("__debug__" : Str))=false:=by decide) (hcd:(x == ("__classdict__" : Str))=false:=by decide)
  (hbase:attributeBase (.Name x p) "pop" X.env (eval (.Name x p) X.env)=eval (.Name x p) X.env:=by rfl)
  (hfew:((backTo cpos (starEach [e] X.env)).all (fun x=>!x.1)&&(backToKw cpos (keywordEach [] X.env)).all (fun x=>x.1.isSome)
   && decide ([e].length+([]:List Keyword).length+(if ([]:List Keyword).isEmpty then 0 else 1)<30))=true:=by rfl)
  (hline:(apos.endLine == cpos.line)=true:=by rfl) (hs:starEach [e] X.env=(false,eval e X.env)::starEach [] X.env:=by rfl) :
  MV X (.Call (.Attribute (.Name x p) "pop" apos) [e] [] cpos) (wM1 i aAw t):=m1 PySem.F.slot_list_pop PySem.F.type_list_pop SI aAx he hN hv hd hcd hbase hfew hline hs
end
noncomputable def aAy (ρ:bF) (i:Nat):Prop:=match ρ[i]? with
 | some (.ow (.lst _))=>True
 | _=>False
noncomputable def aIL (i:Nat) (t:WX) (tk:WE):WS:=fun E ρ=>t ρ fun ρ' d=>aAy ρ' i/\tk (dR ρ') fun k=>match ρ'[i]?,k with
 | some (.ow (.lst ds)),.int k=>(match N6 ds.length k with | some j=>E.nx (ρ'.set i (.ow (.lst (ds.set j d)))) | none=>False)
 | _,_=>False
theorem put3 {i:Nat} {x:Str} {e k:Expr} {t:WX} {tk:WE} {pos pos' p:Pos} (he:MV X e t) (hk:dO X k tk)
  (hN:X.N[i]? = some x:=by rfl) (hv:GU X.env.scope x:=by first | exact Or.inl rfl | exact Or.inr (Or.inl rfl) | exact Or.inr (Or.inr rfl)) (hd:(x == ("__debug__" : Str))=false:=by decide) (hcd:(x == ("__classdict__" : Str))=false:=by decide)
  (ha:∀ v,assign (.Subscript (.Name x p) k pos') X.env v=(do
   let ov <- holding [v] (eval (.Name x p) X.env)
   let iv <- holding [v,ov] (eval k X.env)
   standAt pos'
   holding [v,ov,iv] (setItem ov iv v)
   release [v,ov,iv] []):=by intro _; rfl)
  (hs:swapsWithSole [.Subscript (.Name x p) k pos'] e pos.line X.env=pure false:=by rfl) (hw:swappedStores [.Subscript (.Name x p) k pos'] e X.env=pure none:=by rfl)
  (h1:(assignEach [.Subscript (.Name x p) k pos'] X.env).map (·.2)=[assign (.Subscript (.Name x p) k pos') X.env]:=by rfl) :
  G6 X (.Assign [.Subscript (.Name x p) k pos'] e pos) (aIL i t tk):=nJ (aAS he (aAQ (qU hN hv hd hcd) hk set_list ha) hs hw h1) fun B σ H aIM=>by
 obtain ⟨H₀,S,w,ρ,G,E,hl,st,ht,ok⟩:=aIM
 refine ⟨H₀,S,w,ρ,G,_,hl,st,ht,fun w' v H' ρ' d st' d' q'=>?_⟩
 obtain ⟨q0,q'⟩:=q'
 unfold aAy at q0
 split at q0
 ·rename_i ds0 e0
  obtain ⟨a0,_,_⟩:=st'.own i _ e0
  refine ⟨_,a0,S,dR ρ',_,st'.W3,st'.all,q',fun kv H2 dk s2 dk2 q2=>?_⟩
  split at q2
  ·rename_i ds k' e1
   simp only [Dn] at dk2
   split at q2
   ·rename_i j ej
    have st2:=st'.same s2
    obtain ⟨a,b,c⟩:=st2.own i _ e1
    obtain ⟨xs,hp,dn⟩:=c
    have nS:¬ SO S w' ρ' (w' i):=fun ⟨_,z⟩=>z i _ e1 rfl
    have F:Fits X.K (SO S w' ρ') (SO S w' ρ') H2 (upd H2 (w' i) (.lst (xs.set j v))):=.upd (.inl ⟨_,hp⟩) nS
    exact ⟨w' i,xs,k',j,rfl,dk2,hp,by rw [<- dn.len]; exact ej,ok.nx w' σ _ _ hl (st2.write (d':=.lst (ds.set j d)) e1 ⟨_,bJ,bA.fits F _ _ (dn.set j (Dn.fits (.same s2) _ _ d'))⟩) q2⟩
   ·exact q2.elim
  ·exact q2.elim
 ·exact q0.elim
end
structure Wlk (K:PySem.W.Frag) (J:It) (ds:List D) (G:List (D×V)):Prop where
 go:∀ (S:Addr->Prop) (H:Hp),(∀ a,H a=none->S a)->(∀ g∈G,Dn K S H g.1 g.2) -> ∀ (i:Nat) (d:D),ds[i]? = some d->J.go i H /\ ∀ x H',J.yld i H x H'->Same H H'/\Dn K S H' d x
 stop:∀ (S:Addr->Prop) (H:Hp),(∀ g∈G,Dn K S H g.1 g.2) -> ∀ i:Nat,ds.length=i->J.stop i H
noncomputable abbrev WI:=cD->(List D->Prop)->Prop
noncomputable def Y5 (K:PySem.W.Frag) (t:WI):TI:=fun σ H R=>∃ (S:Addr->Prop) (ρ:cD) (Q3:List D->Prop),(∀ a,H a=none->S a)/\Sl K S H ρ σ/\t ρ Q3 /\
 ∀ J H' ds G,Same H H'->(∀ g∈G,Dn K S H' g.1 g.2)->Wlk K J ds G->Q3 ds->R J H'
noncomputable def TD (X:Cx) (tg iter:Expr) (t:WI):Prop:=PI X tg iter (Y5 X.K t)
section
variable {X:Cx} {tg:Expr}
theorem OE {e:Expr} {t t':TI} (h:PI X tg e t) (f:∀ σ H R,t' σ H R->t σ H R):PI X tg e t':=fun pins s σ H R I q=>h pins s σ H R I (f σ H R q)
noncomputable def aDU (t:WE):WI:=fun ρ Q=>t ρ fun d=>match d with
 | .lst ds=>Q ds
 | .tup ds=>Q ds
 | _=>False
theorem TH {K:PySem.W.Frag} {a:Addr} {ds:List D}:Wlk K (Itl K a) ds [(.lst ds,.ref a)] where
 go:=fun S H fc hg i d e=>by
  have h:=hg _ (List.mem_singleton.mpr rfl)
  simp only [Dn] at h
  obtain ⟨b,xs,eb,hb,sb,dn⟩:=h
  injection eb with eb
  subst eb
  obtain ⟨v,ev,dv⟩:=dn.get e
  refine ⟨⟨xs,v,gB.of hb,ev⟩,fun x H' y=>?_⟩
  obtain ⟨e1,y⟩:=y
  subst e1
  have ex:=y xs (gB.of hb)
  rw [ev] at ex
  cases ex
  exact ⟨Same.refl _,dv⟩
 stop:=fun S H hg i hi=>by
  have h:=hg _ (List.mem_singleton.mpr rfl)
  simp only [Dn] at h
  obtain ⟨b,xs,eb,hb,sb,dn⟩:=h
  injection eb with eb
  subst eb
  exact ⟨xs,gB.of hb,by rw [<- dn.len]; exact Nat.le_of_eq hi⟩
theorem XG {K:PySem.W.Frag} {a:Addr} {ds:List D}:Wlk K (Itt K a) ds [(.tup ds,.ref a)] where
 go:=fun S H fc hg i d e=>by
  have h:=hg _ (List.mem_singleton.mpr rfl)
  simp only [Dn] at h
  obtain ⟨b,xs,eb,hb,dn⟩:=h
  injection eb with eb
  subst eb
  obtain ⟨v,ev,dv⟩:=dn.get e
  refine ⟨⟨xs,v,(iP.of hb),ev⟩,fun x H' y=>?_⟩
  obtain ⟨e1,y⟩:=y
  subst e1
  have ex:=y xs (iP.of hb)
  rw [ev] at ex
  cases ex
  exact ⟨Same.refl _,dv⟩
 stop:=fun S H hg i hi=>by
  have h:=hg _ (List.mem_singleton.mpr rfl)
  simp only [Dn] at h
  obtain ⟨b,xs,eb,hb,dn⟩:=h
  injection eb with eb
  subst eb
  exact ⟨xs,(iP.of hb),by rw [<- dn.len]; exact Nat.le_of_eq hi⟩
theorem aBB {l:Expr} {tl:TE} (hl:PE X l tl):PI X tg l (fun σ H R=>tl σ H fun x H1=>∃ a,x=.ref a/\(((∃ xs,gB X.K H1 a xs)/\R (Itl X.K a) H1)\/((∃ xs,iP X.K H1 a xs)/\R (Itt X.K a) H1))):=by
 intro pins s σ H R I h
 refine fB (hl pins s σ H _ I h) fun v s1 aIN=>?_
 obtain ⟨x,H1,I1,r1,q1⟩:=aIN
 obtain ⟨a,e,q⟩:=q1
 subst e
 cases r1
 rcases q with ⟨⟨xs,hq⟩,q⟩ | ⟨⟨xs,hq⟩,q⟩
 ·obtain ⟨its,rv,p,hz⟩:=I1.list hq
  refine wpAny_pyIter_list p.isList ?_
  refine ⟨s1.heap.objs.size,[s1.heap.objs.size],_,_,H1,rfl,I1.kept (t':=s1.toks) fun b o e=>Heap.get?_push_of_some _ e,NW a _,⟨_,Heap.get?_push_size _ rfl,rfl,rfl⟩,fun b hb=>?_,q⟩
  have e:b=s1.heap.objs.size:=by simpa using hb
  subst e
  exact I1.JJ (Nat.le_refl _) (I1.hok.fresh (Nat.le_refl _))
 ·obtain ⟨its,rv,p,hz⟩:=I1.tuple hq
  refine wpAny_pyIter_tuple (show s1.heap.IsTuple a its.toArray from p) ?_
  refine ⟨s1.heap.objs.size,[s1.heap.objs.size],_,_,H1,rfl,I1.kept (t':=s1.toks) fun b o e=>Heap.get?_push_of_some _ e,JK a _,⟨_,Heap.get?_push_size _ rfl,rfl,rfl⟩,fun b hb=>?_,q⟩
  have e:b=s1.heap.objs.size:=by simpa using hb
  subst e
  exact I1.JJ (Nat.le_refl _) (I1.hok.fresh (Nat.le_refl _))
theorem aDV {l:Expr} {t:WE} (h:dO X l t):TD X tg l (aDU t):=OE (aBB h) fun σ H R aIO=>by
 obtain ⟨S,ρ,Q3,fc,sl,ht,k⟩:=aIO
 refine ⟨S,ρ,_,fc,sl,ht,fun v H1 d s1 d1 q1=>?_⟩
 cases d with
 | lst ds =>
  have d1':=d1
  simp only [Dn] at d1
  obtain ⟨a,xs,rfl,ha,sa,da⟩:=d1
  exact ⟨a,rfl,.inl ⟨⟨xs,gB.of ha⟩,k _ H1 ds [(.lst ds,.ref a)] s1 (fun g hg=>by cases List.mem_singleton.mp hg; exact d1') TH q1⟩⟩
 | tup ds =>
  have d1':=d1
  simp only [Dn] at d1
  obtain ⟨a,xs,rfl,ha,da⟩:=d1
  exact ⟨a,rfl,.inr ⟨⟨xs,(iP.of ha)⟩,k _ H1 ds [(.tup ds,.ref a)] s1 (fun g hg=>by cases List.mem_singleton.mp hg; exact d1') XG q1⟩⟩
 | _=>exact q1.elim
noncomputable def nK (lo:Int) (n:Nat):List Int:=(List.range n).map fun k:Nat=>lo+(k:Int)
theorem n6 (lo:Int) (n:Nat):(nK lo n).length=n:=by simp [nK]
theorem TJ {lo:Int} {n i:Nat}:(nK lo n)[i]? = if i<n then some (lo+(i:Int)) else none:=by
 unfold nK
 rw [List.getElem?_map]
 by_cases h:i<n
 ·rw [if_pos h,List.getElem?_range h]; rfl
 ·rw [if_neg h,List.getElem?_eq_none (by simpa using h)]; rfl
theorem B4 {K:PySem.W.Frag} {lo:Int} {n:Nat}:Wlk K (Itr lo n) ((nK lo n).map D.int) [] where
 go:=fun S H fc hg i d e=>by
  rw [List.getElem?_map,TJ] at e
  by_cases h:i<n
  ·rw [if_pos h] at e
   cases e
   refine ⟨h,fun x H' y=>?_⟩
   obtain ⟨e1,e2⟩:=y
   subst e1
   exact ⟨Same.refl _,by simp only [Dn]; exact e2⟩
  ·rw [if_neg h] at e; cases e
 stop:=fun S H hg i hi=>by rw [List.length_map,n6] at hi; exact Nat.le_of_eq hi
noncomputable def aBC (t:WA):WI:=fun ρ Q=>t ρ fun ds=>match ds with
 | [.int j]=>(-(2 ^ 62)<=j/\j<2 ^ 62)/\Q ((nK 0 j.toNat).map D.int)
 | _=>False
noncomputable def XH (t:WA):WI:=fun ρ Q=>t ρ fun ds=>match ds with
 | [.int i,.int j]=>(-(2 ^ 62)<=i/\i<2 ^ 62 /\ -(2 ^ 62)<=j/\j<2 ^ 62)/\Q ((nK i (j - i).toNat).map D.int)
 | _=>False
theorem aBD {a:Expr} {t:WA} {p pos:Pos} (hm:X.mg "range" = none) (ha:yV X [a] t) (hg:Gl X "range" := by rfl) (hs:starEach [a] X.env=[(false,eval a X.env)]:=by rfl):TD X tg (.Call (.Name "range" p) [a] [] pos) (aBC t) :=
 OE (NX hg hm ha hs) fun σ H R aIP=>by
  obtain ⟨S,ρ,Q3,fc,sl,ht,k⟩:=aIP
  refine ⟨S,ρ,_,fc,sl,ht,fun vs H1 ds s1 d1 q1=>?_⟩
  split at q1
  ·rename_i j
   obtain ⟨v,r,rfl,h1,h2⟩:=d1.bW
   simp only [bA] at h2
   subst h2
   simp only [Dn] at h1
   subst h1
   exact ⟨j,rfl,q1.1.1,q1.1.2,k _ H1 _ [] s1 (fun g hg=>nomatch hg) B4 q1.2⟩
  ·exact q1.elim
theorem XI {a b:Expr} {t:WA} {p pos:Pos} (hm:X.mg "range" = none) (ha:yV X [a,b] t) (hg:Gl X "range" := by rfl) (hs:starEach [a,b] X.env=[(false,eval a X.env),(false,eval b X.env)]:=by rfl) (hs2:starEach [b] X.env=[(false,eval b X.env)]:=by rfl):TD X tg (.Call (.Name "range" p) [a,b] [] pos) (XH t) :=
 OE (NY hg hm ha hs hs2) fun σ H R aIQ=>by
  obtain ⟨S,ρ,Q3,fc,sl,ht,k⟩:=aIQ
  refine ⟨S,ρ,_,fc,sl,ht,fun vs H1 ds s1 d1 q1=>?_⟩
  split at q1
  ·rename_i i j
   obtain ⟨v,r,rfl,h1,h2⟩:=d1.bW
   obtain ⟨v2,r2,rfl,h3,h4⟩:=h2.bW
   simp only [bA] at h4
   subst h4
   simp only [Dn] at h1 h3
   subst h1 h3
   exact ⟨i,j,rfl,q1.1,k _ H1 _ [] s1 (fun g hg=>nomatch hg) B4 q1.2⟩
  ·exact q1.elim
noncomputable abbrev WG:=D->bF->(bF->Prop)->Prop
noncomputable def aDW (K:PySem.W.Frag) (n:Nat) (g:WG):TG:=fun v σ H Q=>∃ (H₀:Hp) (S:Addr->Prop) (w:Nat->Addr) (ρ:bF) (G:List (D×V)) (d:D) (Q3:bF->Prop),σ.length=n/\ST K H₀ S w σ H ρ G/\Dn K (SO S w ρ) H d v/\g d ρ Q3 /\
 ∀ σ' H' ρ',σ'.length=n->ST K H₀ S w σ' H' ρ' G->Q3 ρ'->Q σ' H'
noncomputable def PG3 (X:Cx) (tg:Expr) (g:WG):Prop:=PG X tg (aDW X.K X.N.length g)
theorem TK {e:Expr} {t t':TG} (h:PG X e t) (f:∀ v σ H Q,t' v σ H Q->t v σ H Q):PG X e t':=fun pins s σ H v u Q I r q=>h pins s σ H v u Q I r (f v σ H Q q)
noncomputable def gN (i:Nat):WG:=fun d ρ Q=>Q (ρ.set i (.ro d))
theorem aDX {i:Nat} {x:Str} {pos:Pos} (hN:X.N.Nodup) (hi:X.N[i]? = some x:=by rfl) (hx:Loc X.env.scope x:=by first | exact .inl rfl | exact .inr rfl) (hf:X.fn x=true\/X.env.scope.names.lookup x=some .local:=by first | exact .inl rfl | exact .inr rfl):PG3 X (.Name x pos) (gN i) :=
 TK (vZ hN hi hx hf) fun v σ H Q aIR=>by obtain ⟨H₀,S,w,ρ,G,d,Q3,hl,st,dn,hg,k⟩:=aIR; exact k _ H _ (by rw [List.length_set]; exact hl) (st.yT (by rw [hl]; exact n0 hi) dn) hg
noncomputable def g2 (i j:Nat):WG:=fun d ρ Q=>match d with
 | .tup [d1,d2]=>Q ((ρ.set i (.ro d1)).set j (.ro d2))
 | _=>False
noncomputable def aIS (ti:WI) (g:WG) (tb:WS):WS:=fun E ρ=>ti (lI ρ) fun ds=>∃ Inv:Nat->bF->Prop,Inv 0 ρ /\
 (∀ (i:Nat) (d:D) (ρ':bF),ds[i]? = some d->Inv i ρ'->g d ρ' fun ρ2=>tb { E with nx:=Inv (i+1),ct:=Inv (i+1),bk:=E.nx } ρ2) /\ ∀ ρ',Inv ds.length ρ'->E.nx ρ'
theorem aIT {iter:Expr} {body:List Stmt} {ti:WI} {g:WG} {tb:WS} {pos:Pos} (hc:X.calm=true) (hp:PassesOwn (model X.prog X.w) X.A X.env X.xe) (hi:TD X tg iter ti) (hg:PG3 X tg g) (hb:u6 X body tb)
  (hs:∀ x,foldedSetIterable iter X.env x=pure x:=by intro _; rfl):G6 X (.For tg iter body [] pos) (aIS ti g tb):=nJ (aAU hp hc hi hg hb hs) fun B σ H aIU=>by
 obtain ⟨H₀,S,w,ρ,G,E,hl,st,ht,ok⟩:=aIU
 refine ⟨_,lI ρ,_,st.SU,st.rd,ht,fun J H1 ds G1 s1 hg1 wk q1=>?_⟩
 obtain ⟨Iv,h0,turn,fin⟩:=q1
 have stG:∀ {w σ H ρ},ST X.K H₀ S w σ H ρ (G1++G)->ST X.K H₀ S w σ H ρ G:=fun st=>st.ghost fun g hg=>st.gh g (List.mem_append_right _ hg)
 refine ⟨fun i m σ H=>m=ds.length - i/\i<=ds.length/\σ.length=X.N.length /\ ∃ w ρ,ST X.K H₀ S w σ H ρ (G1++G)/\Iv i ρ,
  ⟨_,rfl,Nat.zero_le _,hl,w,ρ,(st.same s1).ghost fun g hg=>(List.mem_append.mp hg).elim (fun z=>hg1 g z) fun z=>(st.same s1).gh g z,h0⟩,?_⟩
 rintro i m σ2 H2 ⟨rfl,hi2,hl2,w2,ρ2,st2,iv⟩
 by_cases hlt:i<ds.length
 ·refine .inr ?_
  obtain ⟨g1,g2⟩:=wk.go _ H2 st2.SU (fun g hg=>st2.gh g (List.mem_append_left _ hg)) i ds[i] (by simp [hlt])
  refine ⟨g1,fun σ' H'=>σ'.length=X.N.length /\ ∃ w ρ,ST X.K H₀ S w σ' H' ρ (G1++G)/\Iv (i+1) ρ,fun σ' H' ⟨hl',w',ρ',st',iv'⟩=>⟨ds.length - (i+1),by omega,rfl,hlt,hl',w',ρ',st',iv'⟩,fun x H' y=>?_⟩
  obtain ⟨s3,dx⟩:=g2 x H' y
  refine ⟨H₀,S,w2,ρ2,G1++G,ds[i],_,hl2,st2.same s3,dx,turn i ds[i] ρ2 (by simp [hlt]) iv,fun σ4 H4 ρ4 hl4 st4 q4=>?_⟩
  exact ⟨H₀,S,w2,ρ4,G1++G,_,hl4,st4,q4,⟨fun w' σ' H' ρ' hl' st' q=>⟨hl',w',ρ',st',q⟩,fun v H' d s' d' q=>ok.rt v H' d s' d' q,fun w' σ' H' ρ' hl' st' q=>ok.nx w' σ' H' ρ' hl' (stG st') q,fun w' σ' H' ρ' hl' st' q=>⟨hl',w',ρ',st',q⟩,ok.ex⟩⟩
 ·have e:i=ds.length:=by omega
  subst e
  exact .inl ⟨wk.stop _ H2 (fun g hg=>st2.gh g (List.mem_append_left _ hg)) _ rfl,ok.nx w2 σ2 H2 ρ2 hl2 (stG st2) (fin ρ2 iv)⟩
end
theorem J2 {scope:Scope} {env:Env} (h:∀ x∈scope.names,x.2=.free -> ∃ c,env.cells.lookup x.1=some c) :
  ∃ cl,closureFor scope env=pure cl/\(∀ x∈scope.names,x.2=.free->cl.lookup x.1=env.cells.lookup x.1) /\ ∀ x c,cl.lookup x=some c->env.cells.lookup x=some c:=by
 have go:∀ (l:List (Str×NameKind)) (acc:List (Str×Addr)),(∀ x∈l,x.2=.free -> ∃ c,env.cells.lookup x.1=some c)->(∀ x c,acc.lookup x=some c->env.cells.lookup x=some c) ->
   ∃ cl,(forIn l acc fun (x:Str×NameKind) (cs:List (Str×Addr))=>(match x with | (name,kind)=>if (kind == NameKind.free)=true then (do let c <- cellOf env name; pure (ForInStep.yield ((name,c)::cs))) else pure (ForInStep.yield cs):Sem (ForInStep (List (Str×Addr)))))=pure cl /\
    (∀ x c,acc.lookup x=some c->cl.lookup x=some c)/\(∀ x∈l,x.2=.free->cl.lookup x.1=env.cells.lookup x.1) /\ ∀ x c,cl.lookup x=some c->env.cells.lookup x=some c:=by
  intro l
  induction l with
  | nil=>intro acc _ ha; exact ⟨acc,by rw [List.forIn_nil],fun _ _ z=>z,fun x hx=>(nomatch hx),ha⟩
  | cons y l ih =>
   intro acc hf ha
   by_cases hk:y.2=.free
   ·obtain ⟨c,hc⟩:=hf y List.mem_cons_self hk
    have ha':∀ x c',((y.1,c)::acc).lookup x=some c'->env.cells.lookup x=some c':=fun x c' hx=>by
     rw [List.lookup_cons] at hx
     split at hx
     ·rename_i e
      cases hx
      rw [eq_of_beq e]; exact hc
     ·exact ha x c' hx
    obtain ⟨cl,e,h1,h2,h3⟩:=ih ((y.1,c)::acc) (fun x hx=>hf x (List.mem_cons_of_mem _ hx)) ha'
    refine ⟨cl,?_,fun x c' hx=>?_,fun x hx hfx=>?_,h3⟩
    ·rw [List.forIn_cons,<- e]
     have e1:(y.2 == NameKind.free)=true:=by rw [hk]; rfl
     have e2:cellOf env y.1=pure c:=by unfold cellOf; rw [hc]
     obtain ⟨yn,yk⟩:=y
     dsimp only at e1 e2 ⊢
     rw [if_pos e1,e2]
     rfl
    ·by_cases hxy:x=y.1
     ·subst hxy
      have e3:((y.1,c)::acc).lookup y.1=some c:=by simp
      have e4:=ha _ _ hx
      rw [hc] at e4
      cases e4
      exact h1 _ _ e3
     ·refine h1 x c' ?_
      rw [List.lookup_cons]
      have:(x == y.1)=false:=by simpa using hxy
      rw [this]; exact hx
    ·rcases List.mem_cons.mp hx with rfl | hx
     ·rw [hc]; exact h1 _ _ (by simp)
     ·exact h2 x hx hfx
   ·obtain ⟨cl,e,h1,h2,h3⟩:=ih acc (fun x hx=>hf x (List.mem_cons_of_mem _ hx)) ha
    refine ⟨cl,?_,h1,fun x hx hfx=>?_,h3⟩
    ·rw [List.forIn_cons,<- e]
     have e1:¬ (y.2 == NameKind.free)=true:=by simpa using hk
     obtain ⟨yn,yk⟩:=y
     dsimp only at e1 ⊢
     rw [if_neg e1]
     rfl
    ·rcases List.mem_cons.mp hx with rfl | hx
     ·exact absurd hfx hk
     ·exact h2 x hx hfx
 obtain ⟨cl,e,_,h2,h3⟩:=go scope.names [] h (fun x c z=>by simp at z)
 refine ⟨cl,?_,h2,h3⟩
 have e':=congrArg (fun t=>t >>= fun r=>(pure r:Sem (List (Str×Addr)))) e
 exact e'
theorem iR:∀ (l:List (Str×NameKind)) (n:Nat) (own cl:List (Str×Addr)),cellsFrom n l (own++cl)=cellsFrom n l own++cl
 | [],_,_,_=>rfl
 | (x,k)::r,n,own,cl=>by
  unfold cellsFrom
  split
  ·exact iR r (n+1) ((x,n)::own) cl
  ·exact iR r n own cl
theorem kJ:∀ (l:List (Str×NameKind)) (n:Nat) (own:List (Str×Addr)) (p:Str×Addr),p∈cellsFrom n l own->p∈own\/(p.1,NameKind.cell)∈l
 | [],_,_,_,h=>.inl h
 | (x,k)::r,n,own,p,h=>by
  unfold cellsFrom at h
  split at h
  ·rename_i hk
   rcases kJ r _ _ p h with h | h
   ·rcases List.mem_cons.1 h with rfl | h
    ·exact .inr (by rw [<- eq_of_beq hk]; exact List.mem_cons_self)
    ·exact .inl h
   ·exact .inr (List.mem_cons_of_mem _ h)
  ·rcases kJ r _ _ p h with h | h
   ·exact .inl h
   ·exact .inr (List.mem_cons_of_mem _ h)
theorem lR:∀ (l:List (Str×NameKind)) (n:Nat) (own:List (Str×Addr)) (x:Str),((∃ c,own.lookup x=some c)\/(x,NameKind.cell)∈l) -> ∃ c,(cellsFrom n l own).lookup x=some c
 | [],_,_,_,h=>h.elim id fun z=>(nomatch z)
 | (y,k)::r,n,own,x,h=>by
  unfold cellsFrom
  split
  ·refine lR r _ _ x ?_
   by_cases e:x=y
   ·exact .inl ⟨n,by rw [e,List.lookup_cons,beq_self_eq_true]⟩
   ·rcases h with ⟨c,h⟩ | h
    ·exact .inl ⟨c,by rw [List.lookup_cons,beq_eq_false_iff_ne.mpr e]; exact h⟩
    ·rcases List.mem_cons.mp h with z | z
     ·exact absurd (Prod.mk.inj z).1 e
     ·exact .inr z
  ·rename_i hk
   refine lR r _ _ x (h.imp_right fun z=>?_)
   rcases List.mem_cons.mp z with z | z
   ·rw [<- (Prod.mk.inj z).2] at hk; exact absurd rfl hk
   ·exact z
theorem OG {M:Model} {A:Around} {E:Value->Shared->Prop} {s:Shared} {sc:Scope} {g:Addr} {cl:List (Str×Addr)} {q:Str} {f:Option Addr} {code:Value} {env:Env} {bl:Addr} {Q:Env->Shared->Prop}
  (h:∀ h4:Heap,h4.Ns s.heap.objs.size (fun _=>none)->(∀ b o,s.heap.get? b=some o->h4.get? b=some o)->CellsOk h4 (s.heap.objs.size+1) (cellsFrom (s.heap.objs.size+1) sc.names []) ->
   Q (newEnv sc s.heap.objs.size g (cellsFrom (s.heap.objs.size+1) sc.names cl) q f code (some env) bl) { s with heap:=h4 }) :
  wpAny M A (newFunctionEnv sc g cl [] q f code (some env) bl) Q E s:=by
 unfold newFunctionEnv
 refine wpAny_bind (wpAny_alloc (wpAny_bind (wpAny_layCells _ (fun x k c=>by cases e:k == NameKind.cell<;>simp [e]) _ _ _ _ ?_)))
 have hz:∀ o:Obj,(s.heap.push o).objs.size=s.heap.objs.size+1:=fun o=>Heap.size_push ..
 have ok:=fun o=>cellsFrom_ok sc.names (s.heap.push o) (s.heap.objs.size+1) [] ⟨fun _ _ z=>(nomatch z),.nil⟩ (by rw [hz]; exact Nat.le_refl _)
 simp only [hz] at ok ⊢
 rw [List.forIn_nil]
 exact wpAny_bind (wpAny_pure (wpAny_pure (h _ ((Heap.Ns.new s.heap _).keeps (pushCells_keeps _ _)) (fun b o e=>pushCells_keeps _ _ b o (Heap.get?_push_of_some _ e)) (ok _))))
noncomputable def blk (X:Cx) (N:List Str) (sc:Scope) (cl:List (Str×Addr)) (C:Addr) (pn:List (Addr×Obj)) (ex:List Addr) (s₀:Shared) (H₀:Hp):Cx :=
 { X with N:=N,s₀:=s₀,H₀:=H₀,env:=compEnvC sc cl C X.env,outer:=X.stack,stack:=X.stack,ex:=ex,fn:=fun x=>sc.names.lookup x == some NameKind.cell,pn:=pn,xe:=fun _ _=>False }
noncomputable def G8 (nl:Nat) (fr:List Nat) (σ:L2.St):L2.St:=List.replicate nl none++fr.map fun j=>(σ[j]?).join
structure G9 (X:Cx) (ls fs:List Str) (fr:List Nat) (sc:Scope):Prop where
 kind:sc.kind=.function
 nd:(ls++fs).Nodup
 uniq:∀ x∈sc.names,sc.names.lookup x.1=some x.2
 free:∀ x∈sc.names,x.2=.free->X.env.kindOf x.1=some .cell\/X.env.kindOf x.1=some .free
 slot:∀ (k:Nat) (x:Str),fs[k]? = some x -> ∃ j,fr[k]? = some j/\X.N[j]? = some x/\(x,NameKind.free)∈sc.names/\sc.names.lookup x=some .free
 J0:fr.length=fs.length
section
variable {X:Cx}
theorem uQ (t:Str->NameKind->NameKind) (x:Str):∀ l:List (Str×NameKind),(l.map fun p=>(p.1,t p.1 p.2)).lookup x=(l.lookup x).map (t x)
 | []=>rfl
 | (n,k)::r=>by
  rw [List.map_cons,List.lookup_cons,List.lookup_cons]
  by_cases hx:(x == n)=true
  ·rw [hx,eq_of_beq hx]; rfl
  ·rw [Bool.not_eq_true] at hx
   rw [hx]
   exact uQ t x r
theorem y3 {sc:Scope} {env:Env} {x:Str} {l:List (Str×NameKind)}:(l.map fun (n,k)=>if (k == NameKind.free&&env.scope.kind == .function&&env.kindOf n == some .cell) then (n,NameKind.cell) else (n,k)).lookup x =
  (l.lookup x).map fun k=>if (k == NameKind.free&&env.scope.kind == .function&&env.kindOf x == some .cell) then NameKind.cell else k:=by
 rw [<- uQ (fun y k=>if (k == NameKind.free&&env.scope.kind == .function&&env.kindOf y == some .cell) then NameKind.cell else k) x l]
 refine congrArg (List.lookup x) (List.map_congr_left fun p _=>?_)
 dsimp only
 split<;>rfl
theorem ne_size {b c:Addr} {h:Heap} {o:Obj} (e:h.get? b=some o) (hc:c=h.objs.size):b≠c:=fun z=>Nat.lt_irrefl _ (by have q:=Heap.lt_size e; rw [z,hc] at q; exact q)
theorem HA {b c:Addr} {n:Nat} (h:b<n) (hc:n<=c):b≠c:=fun z=>Nat.lt_irrefl c (Nat.lt_of_lt_of_le (z▸h) hc)
theorem XJ {ls fs:List Str} {fr:List Nat} {sc:Scope} {cl:List (Str×Addr)} {C:Addr} {pins:List (Addr×Obj)} {ex:List Addr} {σ:L2.St} {H:Hp} {s s4:Shared} (B:G9 X ls fs fr sc) (I:Inv X pins σ H s)
  (hcl:∀ x∈sc.names,x.2=.free->cl.lookup x.1=X.env.cells.lookup x.1) (EO:∀ x c,cl.lookup x=some c->X.env.cells.lookup x=some c\/(C<c/\s4.heap.IsCell c none)) (aDY:∀ x∈sc.names,x.2=.cell -> ∃ c,cl.lookup x.1=some c/\C<c)
  (hinj:∀ x y c,cl.lookup x=some c->cl.lookup y=some c->x=y) (hex:∀ b∈ex,qV X pins H b/\b<s.heap.objs.size)
  (hC:C=s.heap.objs.size) {m:Str->Option Value} (hn:s4.heap.Ns C m) (hk:∀ b o,s.heap.get? b=some o->s4.heap.get? b=some o) (ho:s4.os=s.os) (hg:s4.gens=s.gens) :
  Inv (blk X (ls++fs) sc cl C (X.pn++pins) ex s H) [] (G8 ls.length fr σ) H s4:=by
 have ltC:∀ {b:Addr} {o:Obj},s.heap.get? b=some o->b≠C:=fun e=>ne_size e hC
 have aOb:∀ x c,cl.lookup x=some c->c≠C:=fun x c e=>by
  rcases EO x c e with e | ⟨e,_⟩
  ·obtain ⟨v,o,ho,_⟩:=I.cell x c e
   exact ltC ho
  ·exact Nat.ne_of_gt e
 have kOf:∀ x,(compEnvC sc cl C X.env).kindOf x=(sc.names.lookup x).map fun k=>if (k == NameKind.free&&X.env.scope.kind == .function&&X.env.kindOf x == some .cell) then NameKind.cell else k:=fun x=>y3 (sc:=sc)
 have okX:(blk X (ls++fs) sc cl C (X.pn++pins) ex s H).Ok:=by
  refine ⟨I.ok.mod,B.kind,I.ok.glob,I.ok.blt,(by show s.heap.objs.size<=C; rw [hC]; exact Nat.le_refl _),hinj,fun x hx=>?_,fun x c hf hl=>?_,I.ok.hd,I.ok.frames,.inl rfl,fun b hb=>?_,fun b o e=>I.bs b o e,Nat.le_trans I.ok.V6 I.sz,fun b o e hb=>?_,fun b hb=>?_,I.stack,I.MF⟩
  ·-- a cell or free name of the block
   have hx':∃ k,sc.names.lookup x=some k/\((if (k == NameKind.free&&X.env.scope.kind == .function&&X.env.kindOf x == some .cell) then NameKind.cell else k)=.cell\/(if (k == NameKind.free&&X.env.scope.kind == .function&&X.env.kindOf x == some .cell) then NameKind.cell else k)=.free):=by
    have hx:(compEnvC sc cl C X.env).kindOf x=some .cell\/(compEnvC sc cl C X.env).kindOf x=some .free:=hx
    rw [kOf] at hx
    cases e:sc.names.lookup x with
    | none=>rw [e] at hx; rcases hx with hx | hx<;>cases hx
    | some k=>rw [e] at hx; exact ⟨k,rfl,hx.imp (fun z=>Option.some.inj z) fun z=>Option.some.inj z⟩
   obtain ⟨k,e,hk'⟩:=hx'
   have hm:=PySem.mem_of_lookup e
   by_cases kf:k=.free
   ·subst kf
    have q:=hcl _ hm rfl
    obtain ⟨c,hc⟩:=I.ok.has x (B.free _ hm rfl)
    exact ⟨c,q.trans hc⟩
   ·have e2:(k == NameKind.free)=false:=by simpa using kf
    rw [e2] at hk'
    simp only [Bool.false_and,Bool.false_eq_true,if_false] at hk'
    rcases hk' with z | z
    ·obtain ⟨c,hc,_⟩:=aDY _ hm z
     exact ⟨c,hc⟩
    ·exact absurd z kf
  ·-- an own cell is new
   obtain ⟨c',hc',hlt⟩:=aDY _ (PySem.mem_of_lookup (eq_of_beq hf)) rfl
   have hc':cl.lookup x=some c':=hc'
   have hl:cl.lookup x=some c:=hl
   rw [hl] at hc'
   cases hc'
   rw [hC] at hlt
   exact Nat.le_of_lt hlt
  ·refine ⟨HA (hex b hb).2 (Nat.le_of_eq hC.symm),fun x c e=>?_⟩
   rcases EO x c e with e | ⟨e,_⟩
   ·exact (hex b hb).1.2.2.2.2.1 x c e
   ·exact Ne.symm (HA (hex b hb).2 (by rw [<- hC]; exact Nat.le_of_lt e))
  ·obtain ⟨⟨_,_,_,f3,_,_⟩,_⟩:=hex b hb
   rcases f3 with f3 | f3
   ·exact I.ok.RW b o e f3
   ·exact absurd (Nat.lt_of_lt_of_le (Heap.lt_size e) (Nat.le_trans I.ok.V6 f3)) (Nat.lt_irrefl _)
  ·intro z
   obtain ⟨⟨_,f1,f2,_,_,_⟩,_⟩:=hex b hb
   rcases List.mem_cons.mp (I.yK b z) with z | z
   ·exact f1 z
   ·exact f2 z
 refine ⟨okX,ho,by rw [hg]; exact I.bare,Un.kept hk,⟨m,hn,fun i x v h1 h2 h3=>?_⟩,fun x c e=>?_,?_,fun x c e=>?_,fun p hp=>?_,I.hok.kept hk,?_⟩
 ·-- a name with a value is one from around
  have hi:¬ i<ls.length:=fun hi=>by
   unfold G8 at h2
   rw [List.getElem?_append_left (by simpa using hi),List.getElem?_replicate,if_pos hi] at h2
   cases h2
  have e1:fs[i - ls.length]? = some x:=by
   have h1:(ls++fs)[i]? = some x:=h1
   rw [List.getElem?_append_right (by omega)] at h1
   exact h1
  obtain ⟨j,ej,eN,hm,hlk⟩:=B.slot _ _ e1
  have e2:(σ[j]?).join=some v:=by
   unfold G8 at h2
   rw [List.getElem?_append_right (by simpa using hi),List.getElem?_map,List.length_replicate,ej] at h2
   exact Option.some.inj h2
  have e3:σ[j]? = some (some v):=by
   cases q:σ[j]? with
   | none=>rw [q] at e2; cases e2
   | some o=>rw [q] at e2; rw [show o=some v from e2]
  have hfr:=B.free _ hm rfl
  have vis:GU X.env.scope x:=.inr hfr
  obtain ⟨mm,hnm,hl⟩:=I.loc
  obtain ⟨u,r,l⟩:=hl j x v eN e3 vis
  refine ⟨u,r,?_⟩
  rcases l with ⟨k1,_⟩ | ⟨k1,c,ec,zc⟩
  ·have k1:X.env.kindOf x=some .local:=k1
   rcases hfr with z | z<;>rw [k1] at z<;>cases z
  ·refine .inr ⟨?_,c,(hcl _ hm rfl).trans ec,?_⟩
   ·show (compEnvC sc cl C X.env).kindOf x=some .cell\/(compEnvC sc cl C X.env).kindOf x=some .free
    rw [kOf,hlk]
    dsimp only [Option.map]
    split
    ·exact .inl rfl
    ·exact .inr rfl
   ·obtain ⟨oc,hoc,hd⟩:=zc
    exact ⟨oc,hk _ _ hoc,hd⟩
 ·rcases EO x c e with e | ⟨_,e⟩
  ·obtain ⟨v,oc,hoc,hd⟩:=I.cell x c e
   exact ⟨v,oc,hk _ _ hoc,hd⟩
  ·exact ⟨none,e⟩
 ·show H C=none
  rw [hC]; exact I.hok.fresh (Nat.le_refl _)
 ·rcases EO x c e with e | ⟨e,_⟩
  ·exact I.nW x c e
  ·exact I.hok.fresh (by rw [<- hC]; exact Nat.le_of_lt e)
 ·have hp:p∈(X.pn++pins)++[]:=hp
  rw [List.append_nil] at hp
  obtain ⟨e,n,ne,nf,d⟩:=I.pin p hp
  refine ⟨hk _ _ e,n,ltC e,fun z=>?_,d⟩
  rcases List.mem_cons.mp (I.yK _ z) with z | z
  ·exact ne z
  ·exact nf z
 ·show (G8 ls.length fr σ).length=(ls++fs).length
  unfold G8
  rw [List.length_append,List.length_append,List.length_replicate,List.length_map,B.J0]
theorem TL {ls fs:List Str} {sc:Scope} {cl:List (Str×Addr)} {C:Addr} {pins MH:List (Addr×Obj)} {ex:List Addr} {σ σ':L2.St} {H H':Hp} {s s':Shared} {h':Heap} (I:Inv X pins σ H s)
  (J:Inv (blk X (ls++fs) sc cl C (X.pn++pins) ex s H) MH σ' H' s') (hex:∀ b∈ex,qV X pins H b) (hC:C=s.heap.objs.size) (hs:Heap.SameBut C s'.heap h'):Inv X pins σ H' { s' with heap:=h' }:=by
 have ltC:∀ {b:Addr} {o:Obj},s.heap.get? b=some o->b≠C:=fun e=>ne_size e hC
 have fr:H' C=none:=J.free
 have un:Un (frs X.stack) ex H H' s.heap s'.heap:=J.base
 refine I.call' (s':={ s' with heap:=h' }) (ch:=ex) J.os ⟨fun b o e n hb hx=>(hs.2 b (ltC e)).trans (un.keep b o e n hb hx),fun b o e n hb hx=>?_,un.free,fun b o e hx=>?_,un.tups,un.tZ,un.u3⟩ ?_ J.bare fun b hb=>?_
 ·obtain ⟨sl,q⟩:=un.slot b o e n hb hx
  exact ⟨sl,(hs.2 b (ltC e)).trans q⟩
 ·obtain ⟨o',q⟩:=un.there b o e hx
  exact ⟨o',(hs.2 b (ltC e)).trans q⟩
 ·intro b ob e
  refine (J.hok b ob e).stay (fun c u hc q=>(hs.2 c ?_).trans q) (fun _ q=>q) fun _ _ q=>q
  intro z
  rcases hc with hc | hc
  ·rw [z] at hc; rw [<- hc,fr] at e; cases e
  ·rw [z,fr] at hc; cases hc
 ·obtain ⟨_,f1,_,f3,f4,f5⟩:=hex b hb
  exact ⟨f3,f1,f4,f5⟩
noncomputable abbrev aBE (ifs:List Expr) (env:Env):Sem Bool:=forIn ifs true fun c r=>if r=true then (do let b <- isTrue c env (eval c env); pure (ForInStep.yield b)) else pure (ForInStep.yield r)
noncomputable abbrev Calm (prog:Program) (w:World) (A:Around) {α:Type} (t:Sem α) (Q:α->Shared->Prop) (s:Shared):Prop:=wpAny (model prog w) A t Q (fun _ _=>False) s
theorem n8 {prog:Program} {w:World} {A:Around} {R:Result->Shared->Prop} {s:Shared} {el tg src:Expr} {ifs:List Expr} {bs:Scope} {at_:Pos} {it acc:Value} {env:Env} (Iv:Nat->Shared->Prop)
  (turn:∀ n s,Iv n s->Calm prog w A (pyNext it) (fun got s1=>match got with
   | none=>R (.ok .next) s1
   | some v=>Calm prog w A (letOwnedTupleGo tg it v) (fun _ s2=>Calm prog w A (assign tg env v) (fun _ s3=>Calm prog w A (aBE ifs env) (fun ok s4 =>
     if ok=true then Calm prog w A (eval el env) (fun x s5=>Calm prog w A (call (.builtin "list.append") [acc,x]) (fun _ s6=>∃ m,m<n/\Iv m s6) s5) s4 else ∃ m,m<n/\Iv m s4) s3) s2) s1) s)
  (n:Nat) (h:Iv n s):codeAny (model prog w) A (.compLoop (.ListComp el [⟨tg,src,ifs,0⟩] bs at_) 0 it acc env) R s:=by
 have no:∀ {α:Type} {E:Value->Shared->Prop} {t:Sem α} {Q Q':α->Shared->Prop} {s:Shared},Calm prog w A t Q s->(∀ a s,Q a s->Q' a s)->wpAny (model prog w) A t Q' E s:=fun h f=>wpAny_mono h f fun _ _ z=>z.elim
 refine codeAny_loop rfl Iv (fun n s hI=>?_) n h
 refine wpAny_noted (m:=compTurn (.ListComp el [⟨tg,src,ifs,0⟩] bs at_) 0 it acc env) ?_
 rw [compTurn_list]
 refine wpAny_bind (wpAny_standAt (wpAny_bind (no (turn n s hI) fun got s1 h1=>?_)))
 match got,h1 with
 | none,h1=>exact wpAny_pure h1
 | some v,h1 =>
  refine wpAny_bind (no h1 fun _ _ h2=>wpAny_bind (no h2 fun _ _ h3=>wpAny_bind (no h3 fun ok s4 h4=>?_)))
  match ok,h4 with
  | false,h4=>exact wpAny_pure (And.intro rfl h4)
  | true,h4=>exact wpAny_bind (wpAny_bind (no h4 fun _ _ h5=>wpAny_bind (no h5 fun _ _ h6=>wpAny_pure (wpAny_pure (And.intro rfl h6)))))
noncomputable abbrev TFk:=L2.St->Hp->(Bool->Hp->Prop)->Prop
noncomputable def PIf (X:Cx) (ifs:List Expr) (t:TFk):Prop :=
 ∀ (pins:List (Addr×Obj)) (s:Shared) (σ:L2.St) (H:Hp) (Q:Bool->Hp->Prop),Inv X pins σ H s->t σ H Q ->
  wpAny (model X.prog X.w) X.A (forIn ifs true fun c r=>if r=true then do let ok <- isTrue c X.env (eval c X.env); pure (ForInStep.yield ok) else pure (ForInStep.yield r)) (TP X pins σ Q) X.xe s
theorem XM:PIf X [] (fun _ H Q=>Q true H):=fun pins s σ H Q I h=>by
 rw [List.forIn_nil]
 exact wpAny_pure ⟨H,I,h⟩
theorem aBF {c:Expr} {t:TT} (h:PT X c t):PIf X [c] t:=fun pins s σ H Q I hw=>by
 rw [List.forIn_cons]
 refine wpAny_bind ?_
 rw [if_pos rfl]
 refine wpAny_bind (fB (h pins s σ H Q I hw) fun b s1 q=>wpAny_pure ?_)
 dsimp only
 rw [List.forIn_nil]
 exact wpAny_pure q
noncomputable def MX (nl:Nat) (fr:List Nat) (wi:TI) (g:TG) (tf:TFk) (te:TE):TE:=fun σ H Q=>wi σ H fun J H1=>∀ acc,H1 acc=none -> ∃ W:Nat->Nat->Hp->List V->Prop,(∃ m,W 0 m (upd H1 acc (.lst [])) []) /\
 ∀ i m H ys,W i m H ys->H acc=some (.lst ys)/\((J.stop i H/\Q (.ref acc) H)\/(J.go i H /\ ∀ x H',J.yld i H x H'->g x (G8 nl fr σ) H' fun σ2 H2=>(σ2.drop nl=fr.map fun j=>(σ[j]?).join)/\tf σ2 H2 fun b H3 =>
  if b=true then te σ2 H3 fun y H4=>H4 acc=some (.lst ys)/\ys.length<sizeLine /\ ∃ m',m'<m/\W (i+1) m' (upd H4 acc (.lst (ys++[y]))) (ys++[y]) else ∃ m',m'<m/\W (i+1) m' H3 ys))
theorem HB {ls fs:List Str} {fr:List Nat} {sc:Scope} {tg iter elt:Expr} {ifs:List Expr} {pos p2:Pos} {wi:TI} {g:TG} {tf:TFk} {te:TE} {pins:List (Addr×Obj)} {σ:L2.St} {H:Hp} {s:Shared} {Qe:VK} {use:Option (Value->Sem Unit)} {Qv:Value->Shared->Prop}
  (hc:X.calm=true) (B:G9 X ls fs fr sc) (hi:PI X tg iter wi) (hg:∀ cl C pn ex s H,PG (blk X (ls++fs) sc cl C pn ex s H) tg g) (hf:∀ cl C pn ex s H,PIf (blk X (ls++fs) sc cl C pn ex s H) ifs tf) (he:∀ cl C pn ex s H,PE (blk X (ls++fs) sc cl C pn ex s H) elt te)
  (hs:∀ x,foldedSetIterable iter X.env x=pure x) (I:Inv X pins σ H s) (h:MX ls.length fr wi g tf te σ H Qe)
  (fin:∀ acc C s' H',Inv X pins σ H' s'->(∃ m,s'.heap.Ns C m)->qV X pins H' C->Qe (.ref acc) H'->compPost (model X.prog X.w) X.A X.xe use Qv (.ref acc) C (.ok .next) s') :
  wpAny (model X.prog X.w) X.A (comprehension (.ListComp elt [⟨tg,iter,ifs,0⟩] sc pos) sc X.env p2 (newList []) false (eval iter X.env) use) Qv X.xe s:=by
 obtain ⟨cl,ecl,hcl,EO⟩:=J2 (scope:=sc) (env:=X.env) fun x hx hf=>I.ok.has x.1 (B.free x hx hf)
 refine wpAny_comprehension_free (g:=⟨tg,iter,ifs,0⟩) (gs:=[]) rfl hs ecl B.kind (fun x hx e=>(B.uniq x hx).trans (congrArg some e)) ?_
 refine fB (hi pins s σ H _ I h) fun v s1 h1=>fB h1 fun itv s2 h2=>?_
 obtain ⟨it,fp,tn,J,H2,e,I2,T,st2,f2,h2⟩:=h2
 subst e
 refine wpAny_newObj_type ?_ (by show ([]:List Value).toArray.size<=sizeLine; simp)
 have hacc:H2 s2.heap.objs.size=none:=I2.hok.fresh (Nat.le_refl _)
 have I3:Inv X pins σ (upd H2 s2.heap.objs.size (.lst [])) { s2 with heap:=s2.heap.push { cls:=.type "list",data:=.seq ([]:List Value).toArray } } :=
  I2.laid (t':=s2.toks) (fun b o e=>Heap.get?_push_of_some _ e) (Nat.le_refl _) ⟨by simp,[],0,.nil,Heap.get?_push_size _ rfl⟩
 have hfp:∀ b∈fp,b<s2.heap.objs.size:=fun b hb=>by obtain ⟨o,e,_⟩:=T.obj _ _ st2 b hb; exact Heap.lt_size e
 obtain ⟨W,⟨m0,w0⟩,turn⟩:=h2 _ hacc
 generalize HC:s2.heap.objs.size=acc at hacc I3 w0 turn ⊢
 have aIW:∀ b∈fp,b≠acc:=fun b hb=>HA (hfp b hb) (Nat.le_of_eq HC)
 have f3:∀ b∈fp,qV X pins (upd H2 acc (.lst [])) b:=fun b hb=>⟨by rw [cC (aIW b hb)]; exact (f2 b hb).1,(f2 b hb).2⟩
 generalize hs3:({ s2 with heap:=s2.heap.push { cls:=.type "list",data:=.seq ([]:List Value).toArray } }:Shared)=s3 at I3
 have hsz3:s3.heap.objs.size=acc+1:=by rw [<- hs3]; show (s2.heap.push _).objs.size=_; rw [Heap.size_push,HC]
 have st3:tn 0 s3.heap:=T.keep _ _ _ st2 fun b hb o e=>by rw [<- hs3]; exact Heap.get?_push_of_some _ e
 refine OG fun h4 hn4 hk4 co=>?_
 generalize hC:s3.heap.objs.size=C at hn4 co ⊢
 have eC:cellsFrom (C+1) sc.names cl=cellsFrom (C+1) sc.names []++cl:=iR sc.names (C+1) [] cl
 generalize hcs:cellsFrom (C+1) sc.names []=cs at co eC
 have own:∀ x c,cs.lookup x=some c->(x,NameKind.cell)∈sc.names/\C<c/\h4.IsCell c none:=fun x c e=>by
  have m:=PySem.mem_of_lookup e
  refine ⟨?_,(co.empty x c m).2,(co.empty x c m).1⟩
  rw [<- hcs] at m
  rcases kJ _ _ _ _ m with z | z
  ·cases z
  ·exact z
 generalize hdl:cellsFrom (C+1) sc.names cl=dl at eC ⊢
 have two:∀ x c,dl.lookup x=some c->cs.lookup x=some c\/(cs.lookup x=none/\cl.lookup x=some c):=fun x c e=>by
  rw [eC,List.lookup_append] at e
  cases q:cs.lookup x with
  | none=>rw [q] at e; exact .inr ⟨rfl,e⟩
  | some d=>rw [q] at e; exact .inl e
 have aIX:∀ x∈sc.names,x.2=.free->dl.lookup x.1=X.env.cells.lookup x.1:=fun x hx e=>by
  rw [<- hcl x hx e,eC,List.lookup_append]
  cases q:cs.lookup x.1 with
  | none=>rfl
  | some d =>
   have z:=B.uniq _ (own _ _ q).1
   rw [B.uniq x hx,e] at z
   cases z
 have aD0:∀ x c,dl.lookup x=some c->X.env.cells.lookup x=some c\/(C<c/\h4.IsCell c none):=fun x c e=>by
  rcases two x c e with e | ⟨_,e⟩
  ·exact .inr (own x c e).2
  ·exact .inl (EO x c e)
 have aIY:∀ x∈sc.names,x.2=.cell -> ∃ c,dl.lookup x.1=some c/\C<c:=fun x hx e=>by
  obtain ⟨c,hc⟩:=lR sc.names (C+1) [] x.1 (.inr (by rw [<- e]; exact hx))
  rw [hcs] at hc
  exact ⟨c,by rw [eC,List.lookup_append,hc]; rfl,(own _ _ hc).2.1⟩
 have low:∀ x c,cl.lookup x=some c->c<C:=fun x c e=>by
  obtain ⟨v,o,ho,_⟩:=I3.cell x c (EO x c e)
  rw [<- hC]; exact Heap.lt_size ho
 have aIZ:∀ x y c,dl.lookup x=some c->dl.lookup y=some c->x=y:=fun x y c e e'=>by
  rcases two x c e with e | ⟨_,e⟩<;>rcases two y c e' with e' | ⟨_,e'⟩
  ·exact name_of_addr co.apart (PySem.mem_of_lookup e) (PySem.mem_of_lookup e')
  ·exact absurd (own _ _ e).2.1 (Nat.lt_asymm (low _ _ e'))
  ·exact absurd (own _ _ e').2.1 (Nat.lt_asymm (low _ _ e))
  ·exact I3.ok.inj x y c (EO x c e) (EO y c e')
 have I4:Inv (blk X (ls++fs) sc dl C (X.pn++pins) fp s3 (upd H2 acc (.lst []))) [] (G8 ls.length fr σ) (upd H2 acc (.lst [])) { s3 with heap:=h4 } :=
  XJ B I3 aIX aD0 aIY aIZ (fun b hb=>⟨f3 b hb,by rw [hsz3,<- HC]; exact Nat.lt_succ_of_lt (hfp b hb)⟩) hC.symm hn4 hk4 rfl rfl
 generalize hX:blk X (ls++fs) sc dl C (X.pn++pins) fp s3 (upd H2 acc (.lst []))=Y at I4
 have pY:Y.prog=X.prog:=by rw [<- hX]; rfl
 have wY:Y.w=X.w:=by rw [<- hX]; rfl
 have kY:Y.K=X.K:=by rw [<- hX]; rfl
 have AY:Y.A=X.A:=by rw [<- hX]; rfl
 have cY:Y.calm=true:=by rw [<- hX]; exact hc
 have eY:Y.env=compEnvC sc dl C X.env:=by rw [<- hX]; rfl
 have xY:Y.xe=fun _ _=>False:=by rw [<- hX]; rfl
 have TN:∀ {H':Hp},(∀ b∈fp,H' b=none) -> ∀ b∈fp,qV Y [] H' b:=fun hn b hb=>by
  rw [<- hX]
  obtain ⟨_,f1,f2',_,f4,f5⟩:=f3 b hb
  refine ⟨hn b hb,fun z=>?_,fun z=>?_,.inl hb,fun x c e=>?_,fun p hp=>f5 p ?_⟩
  ·exact absurd z (HA (hfp b hb) (by rw [<- hC,hsz3,HC]; exact Nat.le_succ _))
  ·rcases List.mem_cons.mp (I3.yK b z) with z | z
   ·exact f1 z
   ·exact f2' z
  ·rcases aD0 x c e with e | ⟨e,_⟩
   ·exact f4 x c e
   ·exact Ne.symm (HA (hfp b hb) (by rw [HC]; exact Nat.le_of_lt (Nat.lt_trans (by rw [<- hC,hsz3]; exact Nat.lt_succ_self _) e)))
  ·have hp:p∈(X.pn++pins)++[]:=hp
   rw [List.append_nil] at hp; exact hp
 have st4:tn 0 h4:=T.keep _ _ _ st3 fun b hb o e=>hk4 b o e
 have loop:∀ s5:Shared,(∃ i H',Inv Y [] (G8 ls.length fr σ) H' s5/\tn i s5.heap/\(∀ b∈fp,H' b=none) /\ ∃ m ys,W i m H' ys)->codeAny (model X.prog X.w) X.A (.compLoop (.ListComp elt [⟨tg,iter,ifs,0⟩] sc pos) 0 (.ref it) (.ref acc) (compEnvC sc dl C X.env)) (compPost (model X.prog X.w) X.A X.xe use Qv (.ref acc) C) s5:=by
  rintro s5 ⟨i,H',I5,st5,fr5,m,ys,w5⟩
  refine n8 (fun n s'=>∃ i H' ys,Inv Y [] (G8 ls.length fr σ) H' s'/\tn i s'.heap/\(∀ b∈fp,H' b=none)/\W i n H' ys) ?_ m ⟨i,H',ys,I5,st5,fr5,w5⟩
  rintro n s6 ⟨i,H6,ys,I6,st6,fr6,w6⟩
  obtain ⟨ha6,alt⟩:=turn i n H6 ys w6
  rcases alt with ⟨stop,qn⟩ | ⟨go,step⟩
  ·have q:=T.done Y pY wY kY cY i [] s6 _ H6 (fun _ _=>False) I6 (TN fr6) st6 stop
   rw [AY] at q
   refine fB q fun r s7 aI0=>?_
   obtain ⟨hr,I7⟩:=aI0
   subst hr
   have fr7:H6 C=none:=by
    have:=I7.free
    rw [eY] at this
    exact this
   refine fin acc C s7 H6 ?_ ?_ (I3.JJ (Nat.le_of_eq hC) fr7) qn
   ·rw [<- hX] at I7
    exact TL I3 I7 (fun b hb=>f3 b hb) hC.symm (.refl ..)
   ·obtain ⟨m,hm,_⟩:=I7.loc
    rw [eY] at hm
    exact ⟨m,hm⟩
  ·have q:=T.item Y pY wY kY cY i [] s6 _ H6 (fun _ _=>False) I6 (TN fr6) st6 go
   rw [AY] at q
   refine fB q fun r s7 aI1=>?_
   obtain ⟨u,hr,h7⟩:=aI1
   subst hr
   refine fB h7 fun _ s8 aI2=>?_
   obtain ⟨x,H8,I8,r8,y8,st8,fr8⟩:=aI2
   have I8':=I8.pinned (TN fr8) (T.obj _ _ st8)
   have hgY:=hg dl C (X.pn++pins) fp s3 (upd H2 acc (.lst []))
   have hfY:=hf dl C (X.pn++pins) fp s3 (upd H2 acc (.lst []))
   have heY:=he dl C (X.pn++pins) fp s3 (upd H2 acc (.lst []))
   rw [hX] at hgY hfY heY
   have q8:=hgY _ s8 _ H8 x u _ I8' r8 (step x H8 y8)
   rw [pY,wY,AY,eY,xY] at q8
   refine fB q8 fun _ s9 aI4=>?_
   obtain ⟨σ9,H9,I9,hσ9,q9⟩:=aI4
   have q10:=hfY _ s9 σ9 H9 _ I9 q9
   rw [pY,wY,AY,eY,xY] at q10
   refine fB q10 fun ok s10 aI5=>?_
   obtain ⟨H10,I10,q10⟩:=aI5
   have bl:∀ {H7:Hp} {s7:Shared},Inv Y ([]++yM fp s8.heap) σ9 H7 s7->(∃ m',m'<n /\ ∃ ys',W (i+1) m' H7 ys') -> ∃ m,m<n /\ ∃ i H' ys,Inv Y [] (G8 ls.length fr σ) H' s7/\tn i s7.heap/\(∀ b∈fp,H' b=none)/\W i m H' ys:=fun {H7 s7} I7 ⟨m',hm,ys',w7⟩=>by
    refine ⟨m',hm,i+1,H7,ys',?_,T.keep _ _ _ st8 fun b hb o e=>(I7.pin (b,o) (List.mem_append_right _ (List.mem_append_right _ (m8 hb e)))).1,fun b hb=>?_,w7⟩
    ·refine I7.sF.weak ?_ fun k v e=>?_
     ·rw [I7.len,<- I6.len]
     ·by_cases hk:k<ls.length
      ·unfold G8 at e
       rw [List.getElem?_append_left (by simpa using hk),List.getElem?_replicate,if_pos hk] at e
       cases e
      ·have e2:(σ9.drop ls.length)[k - ls.length]? = some (some v):=by
        rw [hσ9]
        unfold G8 at e
        rw [List.getElem?_append_right (by simpa using hk),List.length_replicate] at e
        exact e
       rw [List.getElem?_drop] at e2
       rw [show ls.length+(k - ls.length)=k by omega] at e2
       exact e2
    ·obtain ⟨o,e,d⟩:=T.obj _ _ st8 b hb
     exact (I7.pin (b,o) (List.mem_append_right _ (List.mem_append_right _ (m8 hb e)))).2.1
   cases ok with
   | false =>
    rw [if_neg Bool.false_ne_true] at q10 ⊢
    obtain ⟨m',hm,w'⟩:=q10
    exact bl I10 ⟨m',hm,ys,w'⟩
   | true =>
    rw [if_pos rfl] at q10 ⊢
    have q11:=heY _ s10 σ9 H10 _ I10 q10
    rw [pY,wY,AY,eY,xY] at q11
    refine fB q11 fun yv s11 aI6=>?_
    obtain ⟨y,H11,I11,r11,aBH,aI7,m',hm,w'⟩:=aI6
    have q12:=(BY (X:=Y)) _ s11 σ9 H11 (.ref acc) [y] (.ref acc) [yv] (fun _ H'=>H' = upd H11 acc (.lst (ys++[y]))) I11 rfl (.cons r11 .nil) ⟨acc,ys,y,rfl,rfl,aBH,aI7,rfl⟩
    rw [pY,wY,AY,xY] at q12
    refine fB q12 fun _ s12 aI8=>?_
    obtain ⟨_,H12,I12,_,e12⟩:=aI8
    subst e12
    exact bl I12 ⟨m',hm,_,w'⟩
 have L0:=loop _ ⟨0,_,I4,st4,fun b hb=>(f3 b hb).1,m0,[],w0⟩
 refine codeAny_compStart_list L0 (T.self _ 0 _ _ _ st4 L0)
theorem XN {ls fs:List Str} {fr:List Nat} {sc:Scope} {tg iter elt:Expr} {ifs:List Expr} {pos:Pos} {wi:TI} {g:TG} {tf:TFk} {te:TE}
  (hc:X.calm=true) (B:G9 X ls fs fr sc) (hi:PI X tg iter wi) (hg:∀ cl C pn ex s H,PG (blk X (ls++fs) sc cl C pn ex s H) tg g) (hf:∀ cl C pn ex s H,PIf (blk X (ls++fs) sc cl C pn ex s H) ifs tf) (he:∀ cl C pn ex s H,PE (blk X (ls++fs) sc cl C pn ex s H) elt te)
  (hs:∀ x,foldedSetIterable iter X.env x=pure x:=by intro _; rfl):PE X (.ListComp elt [⟨tg,iter,ifs,0⟩] sc pos) (MX ls.length fr wi g tf te):=by
 intro pins s σ H Q I h
 rw [eval_ListComp]
 refine HB (use:=none) hc B hi hg hf he hs I h fun acc C s' H' I' hm fp q=>?_
 obtain ⟨m,hm⟩:=hm
 obtain ⟨f0,f1,_,f3,f4,f5⟩:=fp
 exact ⟨m,hm,fun h' hsb=>⟨.ref acc,H',I'.turned (t':=s'.toks) (fun b o hb e=>(hsb.2 b hb).trans e) f0 f1 f3 f4 f5,rfl,q⟩⟩
theorem J3 {i:Nat} {x:Str} {ls fs:List Str} {fr:List Nat} {sc:Scope} {tg iter elt:Expr} {ifs:List Expr} {pos spos pos':Pos} {wi:TI} {g:TG} {tf:TFk} {te:TE} (hN:X.N.Nodup) (hx0:X.N[i]? = some x) (hx:X.env.scope.names.lookup x=some .local)
  (hc:X.calm=true) (B:G9 X ls fs fr sc) (hi:PI X tg iter wi) (hg:∀ cl C pn ex s H,PG (blk X (ls++fs) sc cl C pn ex s H) tg g) (hf:∀ cl C pn ex s H,PIf (blk X (ls++fs) sc cl C pn ex s H) ifs tf) (he:∀ cl C pn ex s H,PE (blk X (ls++fs) sc cl C pn ex s H) elt te)
  (hsw:swapsWith (.ListComp elt [⟨tg,iter,ifs,0⟩] sc pos) (some (.Name x pos')) spos.line X.env=pure true)
  (hs:∀ x,foldedSetIterable iter X.env x=pure x:=by intro _; rfl):PS X (.Assign [.Name x pos'] (.ListComp elt [⟨tg,iter,ifs,0⟩] sc pos) spos) (aAR (MX ls.length fr wi g tf te) (R1 i)):=by
 intro pins s σ H D I h
 rw [exec_Assign_Name_used _ _ _ _ hsw]; refine wpAny_bind (wpAny_standAt (wpAny_bind ?_))
 show wpAny _ X.A (do let _ <- comprehension (.ListComp elt [⟨tg,iter,ifs,0⟩] sc pos) sc X.env _ (newList []) false (eval iter X.env) (some (assign (.Name x pos') X.env))) _ _ s
 refine wpAny_bind (wpAny_mono (HB (use:=some (assign (.Name x pos') X.env)) (Qv:=fun _ s'=>SP X pins D .next s') hc B hi hg hf he hs I h fun acc C s' H' I' hm fp q=>?_) (fun _ s' hq=>wpAny_pure (wpAny_pure hq)) fun _ _ e=>e)
 obtain ⟨m,hm⟩:=hm
 obtain ⟨f0,f1,_,f3,f4,f5⟩:=fp
 refine wpAny_assign_Name (BQ I' hN hx0 (.inl hx) (v:=.ref acc) rfl (fun s'' I'' hsb=>?_) (.inr hx))
 obtain ⟨a,hsb,ha⟩:=hsb
 have haC:a≠C:=by
  rcases ha with rfl | ha
  ·exact Ne.symm f1
  ·exact f4 x a ha
 exact ⟨m,hm.sameBut hsb (Ne.symm haC),fun h' hs'=>⟨_,H',I''.turned (t':=s''.toks) (fun b o hb e=>(hs'.2 b hb).trans e) f0 f1 f3 f4 f5,q⟩⟩
end
noncomputable def chk (outer:List (Str×NameKind)) (sc:Scope) (N ls fs:List Str) (fr:List Nat):Bool :=
 (sc.kind == .function)&&decide (ls++fs).Nodup&&sc.names.all (fun x=>decide (sc.names.lookup x.1=some x.2)) &&
 sc.names.all (fun x=>decide (x.2=.free->(outer.lookup x.1=some .cell\/outer.lookup x.1=some .free)))&&decide (fr.length=fs.length) &&
 (fs.zip fr).all (fun x=>decide (N[x.2]? = some x.1)&&sc.names.contains (x.1,NameKind.free)&&decide (sc.names.lookup x.1=some .free))
theorem t8 {X:Cx} {ls fs:List Str} {fr:List Nat} {sc:Scope} (h:chk X.env.scope.names sc X.N ls fs fr=true):G9 X ls fs fr sc:=by
 unfold chk at h
 simp only [Bool.and_eq_true,List.all_eq_true,decide_eq_true_eq] at h
 obtain ⟨⟨⟨⟨⟨h1,h2⟩,h3⟩,h5⟩,h6⟩,h7⟩:=h
 refine ⟨eq_of_beq h1,h2,h3,h5,fun k x e=>?_,h6⟩
 have hk:k<fs.length:=(List.getElem?_eq_some_iff.mp e).1
 have hm:(x,fr[k]'(by omega))∈fs.zip fr:=by
  have:(fs.zip fr)[k]? = some (x,fr[k]'(by omega)):=by
   rw [List.getElem?_zip_eq_some]
   exact ⟨e,by simp⟩
  exact List.mem_of_getElem? this
 obtain ⟨⟨a,b⟩,c⟩:=h7 _ hm
 exact ⟨fr[k]'(by omega),by simp,a,by simpa using b,c⟩
noncomputable abbrev GE:=D->cD->(cD->Prop)->Prop
noncomputable def EQ (K:PySem.W.Frag) (nl n:Nat) (g:GE):TG:=fun v σ H Q=>∃ (S:Addr->Prop) (ρ:cD) (d:D) (Q3:cD->Prop),σ.length=n/\(∀ a,H a=none->S a)/\Sl K S H ρ σ/\Dn K S H d v/\g d ρ Q3 /\
 ∀ σ' ρ',Sl K S H ρ' σ'->σ'.drop nl=σ.drop nl->Q3 ρ'->Q σ' H
noncomputable def PG4 (X:Cx) (nl:Nat) (tg:Expr) (g:GE):Prop:=PG X tg (EQ X.K nl X.N.length g)
theorem Sl.set {K:PySem.W.Frag} {S:Addr->Prop} {H:Hp} {ρ:cD} {σ:L2.St} {i:Nat} {d:D} {v:V} (h:Sl K S H ρ σ) (hi:i<σ.length) (q:Dn K S H d v):Sl K S H (ρ.set i (some d)) (σ.set i (some v)):=fun j e he=>by
 rcases get_set he with ⟨hj,z,_⟩ | ⟨hj,z⟩
 ·cases z
  subst hj
  exact ⟨v,List.getElem?_set_self hi,q⟩
 ·obtain ⟨u,a,b⟩:=h j e z
  exact ⟨u,by rw [List.getElem?_set_ne (Ne.symm hj)]; exact a,b⟩
noncomputable def hN (i:Nat):GE:=fun d ρ Q=>Q (ρ.set i (some d))
noncomputable def h2 (i j:Nat):GE:=fun d ρ Q=>match d with
 | .tup [d1,d2]=>Q ((ρ.set i (some d1)).set j (some d2))
 | _=>False
theorem drop_set {α:Type} {l:List α} {i n:Nat} {x:α} (h:i<n):(l.set i x).drop n=l.drop n:=by
 rw [List.drop_set,if_pos h]
section
variable {X:Cx}
theorem aD1 {nl i:Nat} {x:Str} {pos:Pos} (nd:X.N.Nodup) (hil:i<nl) (hi:X.N[i]? = some x:=by rfl) (hx:Loc X.env.scope x:=by first | exact .inl rfl | exact .inr rfl) (hfx:X.fn x=true\/X.env.scope.names.lookup x=some .local:=by first | exact .inr rfl | exact .inl rfl):PG4 X nl (.Name x pos) (hN i) :=
 TK (vZ nd hi hx hfx) fun v σ H Q aI9=>by obtain ⟨S,ρ,d,Q3,hl,fc,sl,dn,hg,k⟩:=aI9; exact k _ _ (sl.set (by rw [hl]; exact n0 hi) dn) (drop_set hil) hg
theorem aD2 {nl i j:Nat} {x y:Str} {kk:Nat} {pos px py:Pos} (hc:X.calm=true) (nd:X.N.Nodup) (hil:i<nl) (hjl:j<nl) (hi:X.N[i]? = some x:=by rfl) (hj:X.N[j]? = some y:=by rfl) (hx:Loc X.env.scope x:=by first | exact .inl rfl | exact .inr rfl) (hfx:X.fn x=true\/X.env.scope.names.lookup x=some .local:=by first | exact .inr rfl | exact .inl rfl) (hy:Loc X.env.scope y:=by first | exact .inl rfl | exact .inr rfl) (hfy:X.fn y=true\/X.env.scope.names.lookup y=some .local:=by first | exact .inr rfl | exact .inl rfl)
  (hn:(assignEach [.Name x px,.Name y py] X.env).length=2:=by rfl) (hst:(assignEach [.Name x px,.Name y py] X.env).findIdx? (·.1)=none:=by rfl)
  (hs1:(assignEach [.Name x px,.Name y py] X.env).map (·.2)=assign (.Name x px) X.env::(assignEach [.Name y py] X.env).map (·.2):=by rfl) (hs2:(assignEach [.Name y py] X.env).map (·.2)=assign (.Name y py) X.env::(assignEach [] X.env).map (·.2):=by rfl) :
  PG4 X nl (.Tuple [.Name x px,.Name y py] kk pos) (h2 i j) :=
 TK (aAP (n:=2) hc (GX (vZ nd hi hx hfx) (GX (vZ nd hj hy hfy) WF hs2) hs1) hn hst) fun v σ H Q aIb=>by
  obtain ⟨S,ρ,d,Q3,hl,fc,sl,dn,hg,k⟩:=aIb
  unfold h2 at hg
  split at hg
  ·rename_i d1 d2
   simp only [Dn] at dn
   obtain ⟨a,xs,rfl,ha,da⟩:=dn
   obtain ⟨v1,r1,rfl,h1,h2⟩:=da.bW
   obtain ⟨v2,r2,rfl,h3,h4⟩:=h2.bW
   simp only [bA] at h4
   subst h4
   refine ⟨a,_,rfl,(iP.of ha),rfl,v1,[v2],rfl,v2,[],rfl,rfl,?_⟩
   exact k _ _ ((sl.set (by rw [hl]; exact n0 hi) h1).set (by rw [List.length_set,hl]; exact n0 hj) h3) (by rw [drop_set hjl,drop_set hil]) hg
  ·exact hg.elim
noncomputable def TQ (X:Cx) (ifs:List Expr) (t:WT):Prop:=PIf X ifs (liftT X.K t)
noncomputable def aD3:WT:=fun _ Q=>Q true
theorem aIc:TQ X [] aD3:=fun pins s σ H Q I aIe=>by obtain ⟨S,ρ,Q3,fc,sl,ht,k⟩:=aIe; exact XM pins s σ H Q I (k true H (Same.refl H) ht)
theorem aD4 {c:Expr} {t:WT} (h:yU X c t):TQ X [c] t:=aBF h
noncomputable def sM (g:GE) (tf:WT) (te:WE) (ρ:cD):List D->List D->(D->Prop)->Prop
 | [],acc,Q=>Q (.lst acc)
 | d::r,acc,Q=>g d ρ fun ρ2=>tf ρ2 fun b=>if b=true then te ρ2 fun y=>acc.length<sizeLine/\sM g tf te ρ r (acc++[y]) Q else sM g tf te ρ r acc Q
noncomputable def benv (nl:Nat) (fr:List Nat) (ρ:cD):cD:=List.replicate nl none++fr.map fun j=>(ρ[j]?).join
noncomputable def MY (nl:Nat) (fr:List Nat) (ti:WI) (g:GE) (tf:WT) (te:WE):WE:=fun ρ Q=>ti ρ fun ds=>sM g tf te (benv nl fr ρ) ds [] Q
theorem XO {K:PySem.W.Frag} {S:Addr->Prop} {H:Hp} {ρ:cD} {σ:L2.St} {nl:Nat} {fr:List Nat} (h:Sl K S H ρ σ):Sl K S H (benv nl fr ρ) (G8 nl fr σ):=fun i d e=>by
 unfold benv at e
 unfold G8
 by_cases hi:i<nl
 ·rw [List.getElem?_append_left (by simpa using hi),List.getElem?_replicate,if_pos hi] at e
  cases e
 ·rw [List.getElem?_append_right (by simpa using hi),List.getElem?_map,List.length_replicate] at e ⊢
  cases q:fr[i - nl]? with
  | none=>rw [q] at e; cases e
  | some j =>
   rw [q] at e
   have e1:(ρ[j]?).join=some d:=Option.some.inj e
   have e2:ρ[j]? = some (some d):=by
    cases z:ρ[j]? with
    | none=>rw [z] at e1; cases e1
    | some o=>rw [z] at e1; rw [show o=some d from e1]
   obtain ⟨v,ev,dv⟩:=h j d e2
   exact ⟨v,by show some ((σ[j]?).join)=_; rw [ev]; rfl,dv⟩
theorem B5 {K:PySem.W.Frag} {nl n:Nat} {fr:List Nat} {ti:WI} {g:GE} {tf:WT} {te:WE} {σ:L2.St} {H:Hp} {Q:VK} (hn:nl+fr.length=n) (h:SX K (MY nl fr ti g tf te) σ H Q):MX nl fr (Y5 K ti) (EQ K nl n g) (liftT K tf) (lift K te) σ H Q:=by
 obtain ⟨S,ρ,Q3,fc,sl,ht,k⟩:=h
 refine ⟨S,ρ,_,fc,sl,ht,fun J H1 ds G s1 hG wk q1=>?_⟩
 intro acc hacc
 have h0:H acc=none:=s1.free hacc
 have fc1:=bZ fc s1
 have ok:∀ {H2:Hp},Same H1 H2->(∃ ys,H2 acc=some (.lst ys))->(∀ a,H2 a=none->S a/\a≠acc)/\Sl K (fun a=>S a/\a≠acc) H2 (benv nl fr ρ) (G8 nl fr σ) /\ ∀ g∈G,Dn K (fun a=>S a/\a≠acc) H2 g.1 g.2:=fun {H2} s2 hy=>by
  refine ⟨fun a e=>⟨bZ fc1 s2 a e,fun z=>?_⟩,?_,fun g hg=>Dn.fits ((Fits.fresh hacc).trans (.same s2)) _ _ (hG g hg)⟩
  ·subst z
   obtain ⟨ys,hy⟩:=hy
   rw [e] at hy; cases hy
  ·exact XO (Sl.fits ((Fits.fresh h0).trans (.same (s1.trans s2))) sl)
 refine ⟨fun i m H2 ys=>m=ds.length - i/\i<=ds.length/\Same H1 H2/\H2 acc=some (.lst ys) /\ ∃ aD,bA K (fun a=>S a/\a≠acc) H2 aD ys/\sM g tf te (benv nl fr ρ) (ds.drop i) aD Q3,
  ⟨_,rfl,Nat.zero_le _,aY hacc,bJ,[],bA.nil,q1⟩,?_⟩
 rintro i m H2 ys ⟨rfl,hi,s2,hy,aD,dn,cw⟩
 obtain ⟨fc2,sl2,gh2⟩:=ok s2 ⟨ys,hy⟩
 refine ⟨hy,?_⟩
 by_cases hlt:i<ds.length
 ·refine .inr ?_
  obtain ⟨g1,g2⟩:=wk.go _ H2 fc2 gh2 i ds[i] (by simp [hlt])
  refine ⟨g1,fun x H' y=>?_⟩
  obtain ⟨s3,dx⟩:=g2 x H' y
  rw [List.drop_eq_getElem_cons hlt,sM] at cw
  refine ⟨fun a=>S a/\a≠acc,benv nl fr ρ,ds[i],_,?_,bZ fc2 s3,Sl.fits (.same s3) sl2,dx,cw,fun σ' ρ' sl' hd q'=>?_⟩
  ·unfold G8; rw [List.length_append,List.length_replicate,List.length_map]; exact hn
  ·refine ⟨by rw [hd]; unfold G8; rw [List.drop_append_of_le_length (by simp),List.drop_replicate]; simp,fun a=>S a/\a≠acc,ρ',_,bZ fc2 s3,sl',q',fun b H3 s4 q4=>?_⟩
   cases b with
   | false =>
    rw [if_neg Bool.false_ne_true] at q4 ⊢
    exact ⟨_,by omega,rfl,hlt,(s2.trans s3).trans s4,(s3.trans s4) _ _ hy,aD,bA.fits (.same (s3.trans s4)) _ _ dn,q4⟩
   | true =>
    rw [if_pos rfl] at q4 ⊢
    refine ⟨fun a=>S a/\a≠acc,ρ',_,bZ fc2 (s3.trans s4),Sl.fits (.same s4) sl',q4,fun v H4 d s5 d5 q5=>?_⟩
    have hy4:H4 acc=some (.lst ys):=((s3.trans s4).trans s5) _ _ hy
    have F:Fits K (fun a=>S a/\a≠acc) (fun a=>S a/\a≠acc) H4 (upd H4 acc (.lst (ys++[v]))):=.upd (.inl ⟨_,hy4⟩) fun z=>z.2 rfl
    refine ⟨hy4,by rw [<- dn.len]; exact q5.1,_,by omega,rfl,hlt,fun b u hb=>?_,bJ,aD++[d],bA.fits F _ _ ((bA.fits (.same ((s3.trans s4).trans s5)) _ _ dn).append (bA.one d5)),q5.2⟩
    rw [cC (cH hb hacc)]
    exact (((s2.trans s3).trans s4).trans s5) _ _ hb
 ·have e:i=ds.length:=by omega
  subst e
  rw [List.drop_length,sM] at cw
  exact .inl ⟨wk.stop _ H2 gh2 _ rfl,k acc ys H2 aD h0 hy (s1.trans s2) dn cw⟩
theorem aD5 {ls fs:List Str} {fr:List Nat} {sc:Scope} {tg iter elt:Expr} {ifs:List Expr} {pos:Pos} {ti:WI} {g:GE} {tf:WT} {te:WE} (hc:X.calm=true) (hi:TD X tg iter ti)
  (hg:∀ cl C pn ex s H,(blk X (ls++fs) sc cl C pn ex s H).N.Nodup->PG4 (blk X (ls++fs) sc cl C pn ex s H) ls.length tg g) (hf:∀ cl C pn ex s H,TQ (blk X (ls++fs) sc cl C pn ex s H) ifs tf) (he:∀ cl C pn ex s H,dO (blk X (ls++fs) sc cl C pn ex s H) elt te)
  (B:chk X.env.scope.names sc X.N ls fs fr=true:=by rfl) (hs:∀ x,foldedSetIterable iter X.env x=pure x:=by intro _; rfl):JX X (.ListComp elt [⟨tg,iter,ifs,0⟩] sc pos) (MY ls.length fr ti g tf te) :=
 imp (XN (g:=EQ X.K ls.length (ls++fs).length g) (tf:=liftT X.K tf) (te:=lift X.K te) hc (t8 B) hi (fun cl C pn ex s H=>hg cl C pn ex s H (t8 B).nd) hf he hs) fun σ H Q h=>B5 (n:=(ls++fs).length) (by rw [List.length_append,(t8 B).J0]) h
theorem OH {i:Nat} {x:Str} {ls fs:List Str} {fr:List Nat} {sc:Scope} {tg iter elt:Expr} {ifs:List Expr} {pos spos pos':Pos} {ti:WI} {g:GE} {tf:WT} {te:WE} (nd:X.N.Nodup) (hc:X.calm=true) (hi:TD X tg iter ti)
  (hg:∀ cl C pn ex s H,(blk X (ls++fs) sc cl C pn ex s H).N.Nodup->PG4 (blk X (ls++fs) sc cl C pn ex s H) ls.length tg g) (hf:∀ cl C pn ex s H,TQ (blk X (ls++fs) sc cl C pn ex s H) ifs tf) (he:∀ cl C pn ex s H,dO (blk X (ls++fs) sc cl C pn ex s H) elt te)
  (hx0:X.N[i]? = some x:=by rfl) (hx:X.env.scope.names.lookup x=some .local:=by rfl) (hsw:swapsWith (.ListComp elt [⟨tg,iter,ifs,0⟩] sc pos) (some (.Name x pos')) spos.line X.env=pure true:=by rfl)
  (B:chk X.env.scope.names sc X.N ls fs fr=true:=by rfl) (hs:∀ x,foldedSetIterable iter X.env x=pure x:=by intro _; rfl):G6 X (.Assign [.Name x pos'] (.ListComp elt [⟨tg,iter,ifs,0⟩] sc pos) spos) (aAs i (MY ls.length fr ti g tf te)) :=
 nJ (J3 (g:=EQ X.K ls.length (ls++fs).length g) (tf:=liftT X.K tf) (te:=lift X.K te) nd hx0 hx hc (t8 B) hi (fun cl C pn ex s H=>hg cl C pn ex s H (t8 B).nd) hf he hsw hs) fun Bd σ H aIf=>by
 obtain ⟨H₀,S,w,ρ,G,E,hl,st,ht,ok⟩:=aIf
 exact B5 (n:=(ls++fs).length) (by rw [List.length_append,(t8 B).J0]) ⟨_,lI ρ,_,st.SU,st.rd,ht,fun p xs H' ds hp hp' s' d' q'=>ok.nx w _ H' _ (by rw [List.length_set]; exact hl) ((st.same s').yT (d:=.lst ds) (by rw [hl]; exact n0 hx0) (by simp only [Dn]; exact ⟨p,xs,rfl,hp',st.SU p hp,bA.fits (.mono fun _ z=>z.1) _ _ d'⟩)) q'⟩
end
section
variable {X:Cx}
noncomputable def tyD:D->String
 | .non => "NoneType"
 | .bl _ => "bool"
 | .int _ => "int"
 | .str _ => "str"
 | .tup _ => "tuple"
 | .lst _ => "list"
 | .nN _ => "list"
 | .kR _ _ => "dict"
 | .fC _ _ _ => "dict"
 | .exc _ _ => "NoneType"
inductive J4:String->Prop
 | t:J4 "tuple"
 | b:J4 "bool"
 | i:J4 "int"
 | s:J4 "str"
noncomputable def isT (T:String) (d:D):Bool:=tyD d == T||(T == "int" && tyD d == "bool")
noncomputable def aIg (K:PySem.W.Frag) (T:String):List V->Hp->VK->Prop:=fun xs H Q=>∃ x t b,xs=[x,.ty T]/\(sG K H x t\/(t=.type "tuple" /\ ∃ a ys,x=.ref a/\iP K H a ys)\/(t=.type "list" /\ ∃ a ys,x=.ref a/\gB K H a ys))/\PySem.W.kitOne K t (.type T)=some b/\Q (.bl b) H
theorem TR {T:String}:jA X (.builtin "isinstance") (aIg X.K T):=by
 intro pins s σ H xs us Q I r h
 obtain ⟨x,t,b,rfl,ty,e,q⟩:=h
 obtain ⟨u,w',rfl,r1,r2⟩:=vals2 r
 obtain rfl:w' = Value.type T:=r2
 rcases ty with ty | ⟨rfl,a,ys,rfl,hq⟩ | ⟨rfl,a,ys,rfl,hq⟩
 ·exact N4 I r1 ty e fun tk=>⟨.bl b,H,I.tok tk,rfl,q⟩
 ·cases r1
  obtain ⟨its,_,p,_⟩:=I.tuple hq
  obtain ⟨o,h1,h2,_⟩:=p
  exact PySem.W.kia_one PySem.W.kitx_tuple I.D6 ⟨o,h1,h2⟩ e (fun z=>nomatch z) fun tk=>⟨.bl b,H,I.tok tk,rfl,q⟩
 ·cases r1
  obtain ⟨its,_,p,_⟩:=I.list hq
  obtain ⟨o,n,h1,h2,_⟩:=p
  exact PySem.W.kia_one PySem.W.kitx_list I.D6 ⟨o,h1,h2⟩ e (fun z=>nomatch z) fun tk=>⟨.bl b,H,I.tok tk,rfl,q⟩
noncomputable def Y6:D->Prop
 | .exc _ _=>False
 | .fC _ _ _=>False
 | _=>True
noncomputable def aIh (T:String) (t:WE):WE:=fun ρ Q=>t ρ fun d=>Y6 d/\Q (.bl (isT T d))
theorem aIi {K:PySem.W.Frag} {T:String} (h:J4 T) (d:D):PySem.W.kitOne K (.type (tyD d)) (.type T)=some (isT T d):=by
 cases h<;>cases d<;>with_unfolding_all rfl
theorem aD7 {K:PySem.W.Frag} {S:Addr->Prop} {H:Hp} {d:D} {v:V} (hne:Y6 d) (h:Dn K S H d v):∃ t,t=Value.type (tyD d)/\(sG K H v t\/(t=.type "tuple" /\ ∃ a ys,v=.ref a/\iP K H a ys)\/(t=.type "list" /\ ∃ a ys,v=.ref a/\gB K H a ys)):=by
 refine ⟨_,rfl,?_⟩
 cases d<;>simp only [Dn] at h
 ·subst h; exact .inl .non
 ·subst h; exact .inl (.bl _)
 ·subst h; exact .inl (.int _)
 ·subst h; exact .inl (.str _)
 ·obtain ⟨a,xs,rfl,hq,_⟩:=h; exact .inr (.inl ⟨rfl,a,xs,rfl,(iP.of hq)⟩)
 ·obtain ⟨a,xs,rfl,hq,_⟩:=h; exact .inl (.lst hq)
 ·obtain ⟨a,rfl,hq⟩:=h; exact .inr (.inr ⟨rfl,a,_,rfl,hq.sq⟩)
 ·obtain ⟨a,xs,rfl,hq,_⟩:=h; exact .inl (.dK hq)
 ·exact hne.elim
 ·exact hne.elim
theorem aIj {T:String} {x:Str} {e:Expr} {t:WE} {p p2 pos:Pos} (hT:J4 T) (hm:X.mg "isinstance" = none) (hmT:X.mg x=none) (hv:bootBuiltins x=some (.type T)) (he:dO X e t) (hg:Gl X "isinstance" := by rfl) (hgT:Gl X x:=by rfl) (hn:x ≠ "__name__" := by decide) (hdb:(x == ("__debug__" : Str))=false:=by decide)
  (hs:starEach [e,.Name x p2] X.env=(false,eval e X.env)::starEach [.Name x p2] X.env:=by rfl) (hs2:starEach [.Name x p2] X.env=(false,eval (.Name x p2) X.env)::starEach [] X.env:=by rfl) (hpl:(backTo pos (starEach [.Name x p2] X.env)).any (·.1)=false:=by rfl) :
  dO X (.Call (.Name "isinstance" p) [e,.Name x p2] [] pos) (aIh T t) :=
 imp (sH (TR (T:=T)) hg hm PyProof.Rows.boot_isinstance (jS he (jS (WB (v:=.ty T) hgT hmT hv rfl hn hdb) qW hs2) hs) (by decide) (by decide) hs hpl) fun σ H Q aIm=>by
  obtain ⟨S,ρ,Q3,fc,sl,ht,k⟩:=aIm
  refine ⟨S,ρ,_,fc,sl,ht,fun v H1 d s1 d1 q1=>?_⟩
  obtain ⟨tt,e1,e2⟩:=aD7 q1.1 d1
  refine ⟨v,tt,isT T d,rfl,e2,?_,k _ H1 (.bl _) s1 (by simp only [Dn]) q1.2⟩
  rw [e1]; exact aIi hT d
noncomputable def Y7:List D->Option (List Bool)
 | []=>some []
 | .bl b::r=>(Y7 r).map (b :: ·)
 | _::_=>none
theorem range_all (bs:List Bool):(List.range bs.length).all (fun i=>bs.getD i true)=bs.all id:=by
 induction bs with
 | nil=>rfl
 | cons b bs ih=>rw [List.length_cons,List.range_succ_eq_map,List.all_cons,List.all_map,List.all_cons,<- ih]; rfl
noncomputable def blF (f:List Bool->Bool):F1
 | [.lst ds],Q=>(match Y7 ds with | some bs=>Q (.bl (f bs)) | none=>False)
 | _,_=>False
noncomputable def Y8:List V->Hp->VK->Prop:=fun xs H Q=>∃ a ns,xs=[.ref a]/\H a=some (.lst (ns.map V.int))/\ns.length<64 /\ ∀ ns':List Int,ns'.Perm ns->ns'.Pairwise (· <= ·) -> ∀ p,H p=none->Q (.ref p) (upd H p (.lst (ns'.map V.int)))
theorem ER:jA X (.builtin "sorted") Y8:=by
 intro pins s σ H xs us Q I r h
 obtain ⟨a,ns,rfl,ha,h64,q⟩:=h
 obtain ⟨u,rfl,ru⟩:=vals1 r
 cases ru
 obtain ⟨its,rv,p,hz⟩:=I.list (gB.of ha)
 have hi:=intsAre_of rv
 have hlen:its.length=ns.length:=by have:=rv.length; rw [List.length_map] at this; exact this.symm
 refine sorted_ints p.isList hi (by omega) fun out ns' a1 a2 a3=>?_
 have hfr:H (s.heap.objs.size+1)=none:=I.hok.fresh (Nat.le_succ _)
 obtain ⟨e1,hat⟩:=sortedAll_at s.heap its out
 have hz2:ns'.length<=sizeLine:=by rw [a2.length_eq,sizeLine_eq]; omega
 have I1:Inv X pins σ (upd H (s.heap.objs.size+1) (.lst (ns'.map V.int))) { s with heap:=sortedAll s.heap its out } :=
  I.laid (t':=s.toks) (fun b o e=>sortedAll_old e) (Nat.le_succ _) ⟨by rw [List.length_map]; exact hz2,out.toList,e1,pI a1,by simpa [seqObj] using hat⟩
 exact ⟨.ref _,_,I1,rfl,q ns' a2 a3 _ hfr⟩
noncomputable def intsOf:List D->Option (List Int)
 | []=>some []
 | .int b::r=>(intsOf r).map (b :: ·)
 | _::_=>none
theorem fR:∀ bs:List Int,intsOf (bs.map D.int)=some bs
 | []=>rfl
 | b::bs=>by rw [List.map_cons,intsOf,fR bs]; rfl
theorem t9:∀ {ds:List D} {bs:List Int},intsOf ds=some bs->ds=bs.map D.int
 | [],bs,h=>by cases h; rfl
 | .int b::r,bs,h=>by
  rw [intsOf] at h
  cases q:intsOf r with
  | none=>rw [q] at h; cases h
  | some cs=>rw [q] at h; cases h; rw [List.map_cons,t9 q]
 | .non::r,bs,h=>by cases h
 | .bl _::r,bs,h=>by cases h
 | .str _::r,bs,h=>by cases h
 | .tup _::r,bs,h=>by cases h
 | .lst _::r,bs,h=>by cases h
 | .nN _::r,bs,h=>by cases h
 | .kR _ _::r,bs,h=>by cases h
 | .fC _ _ _::r,bs,h=>by cases h
noncomputable def TU:F1
 | [.lst ds],Q=>(match intsOf ds with | some ns=>ns.length<64 /\ ∀ ns':List Int,ns'.Perm ns->ns'.Pairwise (· <= ·)->Q (.lst (ns'.map D.int)) | none=>False)
 | _,_=>False
theorem XQ {K:PySem.W.Frag}:C3F K Y8 TU:=by
 intro S H xs ds Q3 Q fc hd hf k
 match ds,hf with
 | [.lst es],hf =>
  obtain ⟨v,r,rfl,h1,h2⟩:=hd.bW
  simp only [bA] at h2
  subst h2
  simp only [Dn] at h1
  obtain ⟨a,ys,rfl,ha,sa,da⟩:=h1
  have hf2:(match intsOf es with | some ns=>ns.length<64 /\ ∀ ns':List Int,ns'.Perm ns->ns'.Pairwise (· <= ·)->Q3 (.lst (ns'.map D.int)) | none=>False):=hf
  clear hf
  cases q:intsOf es with
  | none=>rw [q] at hf2; exact hf2.elim
  | some ns =>
   rw [q] at hf2
   have e:=t9 q
   subst e
   have e2:=bA.ints.mp da
   subst e2
   exact ⟨a,ns,rfl,ha,hf2.1,fun ns' h1 h2 p hp=>k p _ _ _ hp bJ (aY hp) (bA.ints.mpr rfl) (hf2.2 ns' h1 h2)⟩
theorem XR {p pos:Pos} {e:Expr} {t:WA} (hm:X.mg "sorted" = none) (ha:yV X [e] t) (hg:Gl X "sorted" := by rfl)
  (he:starEach [e] X.env=(false,eval e X.env)::starEach [] X.env:=by rfl):JX X (.Call (.Name "sorted" p) [e] [] pos) (S7 TU t):=XD ER XQ PyProof.Rows.boot_sorted hg hm ha (by decide) (by decide) he (by rfl)
end
section
variable {i j:Int} {a b:List D} {Q:D->Prop}
end
section
variable {X:Cx}
theorem B6 {a:Expr} {ta:TA} {p pos:Pos} (hg:Gl X "range") (hm:X.mg "range" = none) (ha:PA X [a] ta) (hs:starEach [a] X.env=[(false,eval a X.env)]:=by rfl) :
  PE X (.Call (.Name "range" p) [a] [] pos) (fun σ H Q=>ta σ H fun vs H1=>∃ j:Int,vs=[.int j] /\ ∀ p,H1 p=none->Q (.ref p) (upd H1 p (.rng 0 j))):=by
 intro pins s σ H Q I h
 refine Call_ (m7 I hg hm PyProof.Rows.boot_range (PyProof.Rows.callWith_type1 (fB (ha pos pins s σ H _ I h) fun us s1 ⟨vs,H1,I1,r1,q1⟩=>?_) hs rfl))
 obtain ⟨j,e,q⟩:=q1
 subst e
 obtain ⟨u,rfl,ru⟩:=vals1 r1
 obtain ⟨t,rfl⟩:=ru
 refine call_range_1 ?_
 exact ⟨.ref s1.heap.objs.size,_,I1.laid (o:=.rng 0 j) (fun b o e=>Heap.get?_push_of_some _ e) (Nat.le_refl _) ⟨_,_,_,Heap.get?_push_size _ rfl⟩,rfl,q _ (I1.hok.fresh (Nat.le_refl _))⟩
theorem mE {lo:Int} {n:Nat} {acc:Array Value} (h:ItemsOf (fun i v=>∃ t,v=.int (lo+(i:Nat)*1) t) acc n):Vals ((nK lo n).map V.int) acc.toList:=by
 obtain ⟨hz,hv⟩:=h
 have key:∀ (l:List Value) (k:Nat) (m:Nat),l.length=m->(∀ (j:Nat) (v:Value),l[j]? = some v -> ∃ t,v=Value.int (lo+((k+j:Nat):Int)) t)->Vals (((List.range' k m).map fun i:Nat=>lo+(i:Int)).map V.int) l:=by
  intro l
  induction l with
  | nil=>intro k m hm _; subst hm; exact .nil
  | cons v l ih =>
   intro k m hm hh
   subst hm
   rw [List.length_cons,List.range'_succ,List.map_cons,List.map_cons]
   refine .cons ?_ (ih (k+1) l.length rfl fun j w e=>?_)
   ·obtain ⟨t,e⟩:=hh 0 v (by simp)
    exact ⟨t,by simpa using e⟩
   ·obtain ⟨t,e2⟩:=hh (j+1) w (by simpa using e)
    exact ⟨t,by rw [e2]; congr 1; congr 1; congr 1; omega⟩
 have:=key acc.toList 0 n (by simpa using hz) fun j v e=>by
  obtain ⟨t,e2⟩:=hv j v (by simpa using e)
  exact ⟨t,by rw [e2]; simp⟩
 unfold nK
 rw [List.range_eq_range']
 exact this
theorem AR (hc:X.calm=true):jA X (.type "list") (fun xs H Q=>∃ p j,xs=[.ref p]/\H p=some (.rng 0 j) /\ -(2 ^ 62)<=j/\j<=16777216 /\ ∀ l,H l=none->Q (.ref l) (upd H l (.lst ((nK 0 j.toNat).map V.int)))):=by
 intro pins s σ H xs us Q I r h
 obtain ⟨p,j,rfl,hp,h0,h1,q⟩:=h
 obtain ⟨u,rfl,ru⟩:=vals1 r
 cases ru
 obtain ⟨t,u,v,e⟩:=I.hok p _ hp
 have hsz:Builtin.Range.rangeSize 0 j 1=(j.toNat:Int):=by rw [rangeSize_one]; split<;>omega
 refine call_list_range (a:=0) (b:=j) (c:=1) (n:=j.toNat) (I.ok.hd hc) e (small_one (by omega) (by omega) (by omega) (by omega)) hsz (by omega) fun h' tk acc' c' kp hn hit=>?_
 have hfr:H s.heap.objs.size=none:=I.hok.fresh (Nat.le_refl _)
 have hv:Vals ((nK 0 j.toNat).map V.int) acc'.toList:=mE hit
 refine ⟨.ref s.heap.objs.size,_,I.laid (o:=.lst ((nK 0 j.toNat).map V.int)) kp (Nat.le_refl _) ⟨?_,acc'.toList,c',hv,by simpa using hn⟩,rfl,q _ hfr⟩
 rw [List.length_map,n6,sizeLine_eq]
 omega
noncomputable def aBJ (t:WA):WE:=fun ρ Q=>t ρ fun ds=>match ds with
 | [.int j]=>(-(2 ^ 62)<=j/\j<=16777216)/\Q (.lst ((nK 0 j.toNat).map D.int))
 | _=>False
theorem J5 {a:Expr} {t:WA} {p pos p2 pos2:Pos} (hc:X.calm=true) (hm:X.mg "list" = none) (hmr:X.mg "range" = none) (ha:yV X [a] t) (hg:Gl X "list" := by rfl) (hgr:Gl X "range" := by rfl) (hs:starEach [a] X.env=[(false,eval a X.env)]:=by rfl)
  (he:starEach [.Call (.Name "range" p2) [a] [] pos2] X.env=(false,eval (.Call (.Name "range" p2) [a] [] pos2) X.env)::starEach [] X.env:=by rfl) :
  JX X (.Call (.Name "list" p) [.Call (.Name "range" p2) [a] [] pos2] [] pos) (aBJ t) :=
 imp (pH (AR hc) hg hm PyProof.Rows.boot_list (jS (B6 hgr hmr ha hs) qW he) (by decide) (by decide) he (by rfl)) fun σ H Q aIn=>by
  obtain ⟨S,ρ,Q3,fc,sl,ht,k⟩:=aIn
  refine ⟨S,ρ,_,fc,sl,ht,fun vs H1 ds s1 d1 q1=>?_⟩
  split at q1
  ·rename_i j
   obtain ⟨v,r,rfl,h1,h2⟩:=d1.bW
   simp only [bA] at h2
   subst h2
   simp only [Dn] at h1
   subst h1
   refine ⟨j,rfl,fun p hp=>⟨p,j,rfl,bJ,q1.1.1,q1.1.2,fun l hl=>?_⟩⟩
   have hl1:H1 l=none:=(aY hp).free hl
   exact k l _ _ _ (s1.free hl1) bJ ((s1.trans (aY hp)).trans (aY hl)) (bA.ints.mpr rfl) q1.2
  ·exact q1.elim
noncomputable def lC (ks:List Key) (ds:List D) (k:Key):Option D:=((ks.zip ds).find? fun kv=>decide (kv.1=k)).map (·.2)
theorem y4 {K:PySem.W.Frag} {S:Addr->Prop} {H:Hp} {k:Key}:∀ {ks:List Key} {ds:List D} {xs:List V},ks.length=xs.length->bA K S H ds xs ->
  (∀ d,lC ks ds k=some d -> ∃ v,lQ (ks.zip xs) k=some v/\Dn K S H d v)/\(lC ks ds k=none->lQ (ks.zip xs) k=none)
 | [],ds,xs,_,_=>by
  refine ⟨fun d e=>?_,fun _=>?_⟩
  ·simp [lC] at e
  ·simp [lQ]
 | q::ks,ds,xs,hl,dn=>by
  cases ds with
  | nil=>simp only [bA] at dn; subst dn; simp at hl
  | cons d0 ds =>
   obtain ⟨v,r,rfl,h1,h2⟩:=dn.bW
   have ih:=y4 (k:=k) (ks:=ks) (ds:=ds) (xs:=r) (by simpa using hl) h2
   by_cases e:q=k
   ·refine ⟨fun d ed=>?_,fun ed=>?_⟩
    ·simp only [lC,List.zip_cons_cons,List.find?_cons,e,decide_true,Option.map_some] at ed
     cases ed
     exact ⟨v,by simp [lQ,e],h1⟩
    ·simp [lC,e] at ed
   ·refine ⟨fun d ed=>?_,fun ed=>?_⟩
    ·have ed':lC ks ds k=some d:=by simpa [lC,e] using ed
     obtain ⟨u,eu,du⟩:=ih.1 d ed'
     exact ⟨u,by simpa [lQ,e] using eu,du⟩
    ·have ed':lC ks ds k=none:=by simpa [lC,e] using ed
     simpa [lQ,e] using ih.2 ed'
theorem TV {i:Nat} {x:Str} {pos pos' p:Pos} (hN:X.N.Nodup) (hi:X.N[i]? = some x:=by rfl) (hx:Loc X.env.scope x:=by first | exact .inl rfl | exact .inr rfl) (hs:swapsWith (.Dict [] [] p) (some (.Name x pos')) pos.line X.env=pure false:=by rfl) (hf:X.fn x=true\/X.env.scope.names.lookup x=some .local:=by first | exact .inl rfl | exact .inr rfl) :
  G6 X (.Assign [.Name x pos'] (.Dict [] [] p) pos) (fun E ρ=>E.nx (ρ.set i (.ow (.kR [] [])))):=nJ (t5 hN hi hx SS hs hf) fun B σ H ⟨H₀,S,w,ρ,G,E,hl,st,ht,ok⟩=>fun p hp =>
 ok.nx _ _ _ _ (by rw [List.length_set]; exact hl) (st.JW (d:=.kR [] []) (by rw [hl]; exact n0 hi) (aY hp) hp ⟨[],bJ,rfl,bA.nil⟩) ht
noncomputable def HD:D->Option Key
 | .int i=>some (.inl i)
 | .str x=>some (.inr x)
 | _=>none
theorem TX {K:PySem.W.Frag} {S:Addr->Prop} {H:Hp} {d:D} {v:V} {k:Key} (h:Dn K S H d v) (e:HD d=some k):v=kV k:=by
 cases d<;>simp only [HD] at e<;>cases e<;>simp only [Dn] at h<;>exact h
noncomputable def aBK:F2:=fun x y Q=>match x,HD y with
 | .kR ks ds,some k=>(match lC ks ds k with | some d=>Q d | none=>False)
 | _,_=>False
theorem aIo {o i:Expr} {pos:Pos} {to ti:WE} (hu:X.A.units+1<cLine) (ho:dO X o to) (hi:dO X i ti) (hs:JV i:=by intro _ _; rfl):dO X (.Subscript o i pos) (iQ aBK to ti):=imp (W1 hu ho hi hs) fun σ H Q aIp=>by
 obtain ⟨S,ρ,Q3,fc,sl,ht,k⟩:=aIp
 refine ⟨S,ρ,_,fc,sl,ht,fun v H1 d s1 d1 q1=>?_⟩
 refine ⟨S,ρ,_,bZ fc s1,Sl.fits (.same s1) sl,q1,fun u H2 d2 s2 MW q2=>?_⟩
 unfold aBK at q2
 split at q2
 ·rename_i ks ds kk ek
  have d1':=Dn.fits (.same s2) _ _ d1
  simp only [Dn] at d1'
  obtain ⟨a,xs,rfl,ha,sa,hl,da⟩:=d1'
  split at q2
  ·rename_i d3 e3
   obtain ⟨v3,ev,dv⟩:=(y4 hl da).1 d3 e3
   have eu:=TX MW ek
   subst eu
   refine ⟨a,v3,rfl,?_,k v3 H2 d3 (s1.trans s2) dv q2⟩
   have g:=G4.k (k:=kk) ha
   rw [ev] at g
   exact g
  ·exact q2.elim
 ·exact q2.elim
noncomputable def aD8 (i:Nat) (t:WX) (tk:WE):WS:=fun E ρ=>t ρ fun ρ' d=>(match ρ'[i]? with | some (.ow (.kR _ _))=>True | _=>False)/\tk (dR ρ') fun kd=>match ρ'[i]?,HD kd with
 | some (.ow (.kR ks ds)),some k=>(lC ks ds k=none/\ds.length<sizeLine)/\E.nx (ρ'.set i (.ow (.kR (ks++[k]) (ds++[d]))))
 | _,_=>False
theorem aD9 {i:Nat} {x:Str} {e k:Expr} {t:WX} {tk:WE} {pos pos' p:Pos} (hu:X.A.units+1<cLine) (he:MV X e t) (hk:dO X k tk)
  (hN:X.N[i]? = some x:=by rfl) (hv:GU X.env.scope x:=by first | exact Or.inl rfl | exact Or.inr (Or.inl rfl) | exact Or.inr (Or.inr rfl)) (hd:(x == ("__debug__" : Str))=false:=by decide) (hcd:(x == ("__classdict__" : Str))=false:=by decide)
  (hs:swapsWith e (some (.Subscript (.Name x p) k pos')) pos.line X.env=pure false:=by rfl) :
  G6 X (.Assign [.Subscript (.Name x p) k pos'] e pos) (aD8 i t tk):=nJ (W2 hu (qU hN hv hd hcd) hk he hs) fun B σ H aIq=>by
 obtain ⟨H₀,S,w,ρ,G,E,hl,st,ht,ok⟩:=aIq
 refine ⟨H₀,S,w,ρ,G,_,hl,st,ht,fun w' v H' ρ' d st' d' q'=>?_⟩
 obtain ⟨q0,q'⟩:=q'
 split at q0
 ·rename_i ks0 ds0 e0
  obtain ⟨a0,_,_⟩:=st'.own i _ e0
  refine ⟨_,a0,S,dR ρ',_,st'.W3,st'.all,q',fun kv H2 dk s2 dk2 q2=>?_⟩
  split at q2
  ·rename_i ks ds kk e1 ek
   have st2:=st'.same s2
   obtain ⟨a,b,c⟩:=st2.own i _ e1
   obtain ⟨xs,hp,hlen,dn⟩:=c
   have eu:=TX dk2 ek
   subst eu
   have hno:=(y4 (k:=kk) hlen dn).2 q2.1.1
   have nS:¬ SO S w' ρ' (w' i):=fun ⟨_,z⟩=>z i _ e1 rfl
   have hz:(ks.zip xs).length<sizeLine:=by
    rw [List.length_zip,hlen,Nat.min_self,<- dn.len]; exact q2.1.2
   have aIr:putK (ks.zip xs) kk v=(ks++[kk]).zip (xs++[v]):=by
    rw [SM v hno,List.zip_append hlen]; rfl
   have F:Fits X.K (SO S w' ρ') (SO S w' ρ') H2 (upd H2 (w' i) (.dK (putK (ks.zip xs) kk v))):=.upd (.inr (.inl ⟨_,hp⟩)) nS
   refine ⟨w' i,_,rfl,JU.k hp hz,ok.nx w' σ _ _ hl (st2.write (d':=.kR (ks++[kk]) (ds++[d])) e1 ⟨xs++[v],?_,by simp [hlen],bA.fits F _ _ (dn.append (bA.one (Dn.fits (.same s2) _ _ d')))⟩) q2.2⟩
   rw [bJ,aIr]
  ·exact q2.elim
 ·exact q0.elim
noncomputable def aDa (i:Nat) (t:WE):WS:=fun E ρ=>t (dR ρ) fun d=>(match d with | .lst ds=>wH ds=true | _=>False)/\E.nx (ρ.set i (.ro d))
theorem aDb {i:Nat} {x:Str} {e:Expr} {t:WE} {pos pos':Pos} (hN:X.N.Nodup) (he:JX X e t) (hi:X.N[i]? = some x:=by rfl) (hx:Loc X.env.scope x:=by first | exact .inl rfl | exact .inr rfl) (hs:swapsWith e (some (.Name x pos')) pos.line X.env=pure false:=by rfl) (hf:X.fn x=true\/X.env.scope.names.lookup x=some .local:=by first | exact .inl rfl | exact .inr rfl) :
  G6 X (.Assign [.Name x pos'] e pos) (aDa i t):=nJ (t5 hN hi hx he hs hf) fun B σ H aIs=>by
 obtain ⟨H₀,S,w,ρ,G,E,hl,st,ht,ok⟩:=aIs
 exact ⟨_,dR ρ,_,st.W3,st.all,ht,fun p xs H' ds hp hp' s' d' q'=>ok.nx w _ H' _ (by rw [List.length_set]; exact hl) ((st.same s').yT (d:=.lst ds) (by rw [hl]; exact n0 hi) (by simp only [Dn]; exact ⟨p,xs,rfl,hp',st.SU p hp,bA.IG q'.1 d'⟩)) q'.2⟩
noncomputable def aBL (c:WT) (tb:WS):WS:=fun E ρ=>∃ (Inv:bF->Prop) (μ:bF->Nat),Inv ρ /\ ∀ ρ',Inv ρ'->c (dR ρ') fun b=>if b=true then tb { E with nx:=fun ρ2=>Inv ρ2/\μ ρ2<μ ρ',ct:=fun ρ2=>Inv ρ2/\μ ρ2<μ ρ',bk:=E.nx } ρ' else E.nx ρ'
theorem aBM {c:Expr} {body:List Stmt} {tc:WT} {tb:WS} {pos:Pos} (hp:PassesOwn (model X.prog X.w) X.A X.env X.xe) (hc:yU X c tc) (hb:u6 X body tb):G6 X (.While c body [] pos) (aBL tc tb):=nJ (R3 hp hc hb) fun B σ H aIt=>by
 obtain ⟨H₀,S,w,ρ,G,E,hl,st,⟨Iv,μ,h0,turn⟩,ok⟩:=aIt
 refine ⟨fun m σ H=>∃ w ρ,σ.length=X.N.length/\ST X.K H₀ S w σ H ρ G/\Iv ρ/\m=μ ρ,⟨_,w,ρ,hl,st,h0,rfl⟩,?_⟩
 rintro m σ2 H2 ⟨w2,ρ2,hl2,st2,iv,rfl⟩
 refine ⟨S,dR ρ2,_,st2.W3,st2.all,turn ρ2 iv,fun b H3 s3 q3=>?_⟩
 cases b with
 | false=>rw [if_neg Bool.false_ne_true] at q3 ⊢; exact ok.nx w2 σ2 H3 ρ2 hl2 (st2.same s3) q3
 | true =>
  rw [if_pos rfl] at q3 ⊢
  refine ⟨fun σ' H'=>∃ w ρ,σ'.length=X.N.length/\ST X.K H₀ S w σ' H' ρ G/\Iv ρ/\μ ρ<μ ρ2,fun σ' H' ⟨w',ρ',hl',st',iv',hm⟩=>⟨_,hm,w',ρ',hl',st',iv',rfl⟩,?_⟩
  exact ⟨H₀,S,w2,ρ2,G,_,hl2,st2.same s3,q3,⟨fun w' σ' H' ρ' hl' st' q=>⟨w',ρ',hl',st',q.1,q.2⟩,fun v H' d s' d' q=>ok.rt v H' d s' d' q,fun w' σ' H' ρ' hl' st' q=>ok.nx w' σ' H' ρ' hl' st' q,fun w' σ' H' ρ' hl' st' q=>⟨w',ρ',hl',st',q.1,q.2⟩,ok.ex⟩⟩
section
variable {i:Nat} {x:Str} {e:Expr} {p apos cpos:Pos} {t:WX}
end
end
section
variable {X:Cx} {pins:List (Addr×Obj)} {σ:L2.St} {H:Hp} {s:Shared} {h':Heap}
theorem turnT {t':Nat} {ch:List Addr} {T:Addr} {xs:List V} {its:List Value} (I:Inv X pins σ H s) (k:∀ b o,b∉ch->s.heap.get? b=some o->h'.get? b=some o) (hf:∀ b∈ch,qV X pins H b)
  (hT:s.heap.objs.size<=T) (hv:Vals xs its) (hz:xs.length<=sizeLine) (ht:IsTup h' T its.toArray):Inv X pins σ (upd H T (.tup xs)) { s with heap:=h',toks:=t' }:=by
 have fr:H T=none:=I.hok.fresh hT
 have nT:∀ {b:Addr} {o:Obj},s.heap.get? b=some o->b≠T:=fun {b} {o} e z=>Nat.lt_irrefl _ (Nat.lt_of_lt_of_le (Heap.lt_size e) (z▸hT))
 have live:∀ {b:Addr} {u:HO},H b=some u->b∉ch:=fun {b} {u} e z=>by rw [(hf _ z).1] at e; cases e
 refine I.call' (s':={ s with heap:=h',toks:=t' }) (ch:=ch) rfl ⟨fun b o e _ _ hx=>k b o hx e,fun b o e _ _ hx=>⟨o.slots,k b o hx e⟩,fun b o e n _=>by rw [cC (nT e)]; exact n,fun b o e hx=>⟨o,k b o hx e⟩,
  fun b ys e=>by rw [cC (cH e fr)]; exact e,fun b o u e=>by rw [cC (cH e fr)]; exact e,fun b ps e=>⟨#[],by rw [cC (cH e fr),e]; simp⟩⟩ ?_ I.bare fun b hb=>?_
 ·intro b u e
  by_cases hb:b=T
  ·subst hb; rw [bJ] at e; cases e; exact ⟨hz,its,hv,ht⟩
  ·rw [cC hb] at e
   refine (I.hok b u e).stay (fun c v hc q=>k c v ?_ q) (fun c q=>by rw [cC (cH q fr)]; exact q) fun c ys q=>by rw [cC (cH q fr)]; exact q
   rcases hc with rfl | hc
   ·exact live e
   ·exact live hc
 ·obtain ⟨_,f1,_,f3,f4,f5⟩:=hf b hb
  exact ⟨f3,f1,f4,f5⟩
theorem TY {t':Nat} {ch:List Addr} (I:Inv X pins σ H s) (k:∀ b o,b∉ch->s.heap.get? b=some o->h'.get? b=some o) (hf:∀ b∈ch,qV X pins H b):Inv X pins σ H { s with heap:=h',toks:=t' }:=by
 have live:∀ {b:Addr} {u:HO},H b=some u->b∉ch:=fun {b} {u} e z=>by rw [(hf _ z).1] at e; cases e
 refine I.call' (s':={ s with heap:=h',toks:=t' }) (ch:=ch) rfl ⟨fun b o e _ _ hx=>k b o hx e,fun b o e _ _ hx=>⟨o.slots,k b o hx e⟩,fun b o e n _=>n,fun b o e hx=>⟨o,k b o hx e⟩,
  fun b ys e=>e,fun b o u e=>e,fun b ps e=>⟨#[],by rw [e]; simp⟩⟩ ?_ I.bare fun b hb=>?_
 ·intro b u e
  refine (I.hok b u e).stay (fun c v hc q=>k c v ?_ q) (fun c q=>q) fun c ys q=>q
  rcases hc with rfl | hc
  ·exact live e
  ·exact live hc
 ·obtain ⟨_,f1,_,f3,f4,f5⟩:=hf b hb
  exact ⟨f3,f1,f4,f5⟩
end
noncomputable def Itp (go:Nat->Hp->Prop) (Y:Nat->Hp->List V->Prop) (stop:Nat->Hp->Prop):It:=⟨go,fun i H x H'=>∃ T vs,x=.ref T/\H T=none/\H' = upd H T (.tup vs)/\Y i H vs,stop⟩
theorem qX {P:Program} {w:World} {K:PySem.W.Frag} {es:List Expr} {kk:Nat} {tp:Pos} {go:Nat->Hp->Prop} {Y:Nat->Hp->List V->Prop} {stop:Nat->Hp->Prop} {fp:List Addr} {it:Addr} {tn:Nat->Heap->Prop} (mem:it∈fp)
  (obj:∀ i h,tn i h -> ∀ b∈fp,∃ o,h.get? b=some o /\ ∀ v,o.data≠.cell v) (keep:∀ i h h',tn i h->(∀ b∈fp,∀ o,h.get? b=some o->h'.get? b=some o)->tn i h')
  (wk:∀ (X:Cx),X.prog=P->X.w=w->X.K=K->X.calm=true -> ∀ (i:Nat) (pins:List (Addr×Obj)) (s:Shared) (σ:L2.St) (H:Hp),Inv X pins σ H s->tn i s.heap->go i H\/stop i H ->
   ∃ fp2 wr n Pt St Mid,WalksT P w X.A it fp2 wr n Pt St Mid/\St i s.heap/\(∀ b∈wr,b∈fp)/\(∀ h,St (i+1) h->tn (i+1) h) /\
    (go i H->i<n /\ ∀ vals,Pt i vals -> ∃ vs,vs.length<=sizeLine/\Vals vs vals.toList/\Y i H vs)/\(stop i H->i=n))
  (self:∀ (A:Around) (i:Nat) (s:Shared) (Q:Value->Shared->Prop) (E:Value->Shared->Prop),tn i s.heap->Q (.ref it) s->wpAny (model P w) A (pyIter (.ref it)) Q E s) :
  Turn P w K (.Tuple es kk tp) (Itp go Y stop) fp it tn where
 mem:=mem
 obj:=obj
 keep:=keep
 self:=self
 item:=by
  intro X hP hw hK hc i pins s σ H E I hf st hg
  obtain ⟨fp2,wr,n,Pt,St,Mid,W,hs,sub,nx,ok,_⟩:=wk X hP hw hK hc i pins s σ H I st (.inl hg)
  obtain ⟨hi,ok⟩:=ok hg
  refine W.item i s _ _ hi hs fun T vals h1 tk hp hT ht hm k1=>⟨.ref T,rfl,W.go es kk tp i T _ _ _ hm fun h2 s2 k2=>?_⟩
  obtain ⟨vs,hz,hv,hy⟩:=ok vals hp
  obtain ⟨o,eo,c,d⟩:=ht
  have ht2:IsTup h2 T vals.toList.toArray:=⟨o,k2 T o (W.apart i T _ hm) eo,c,by simpa using d⟩
  have I2:Inv X pins σ (upd H T (.tup vs)) { s with heap:=h2,toks:=tk }:=turnT (t':=tk) (ch:=wr) I (fun b o hb e=>k2 b o hb (k1 b o hb e)) (fun b hb=>hf b (sub b hb)) hT hv hz ht2
  refine ⟨.ref T,upd H T (.tup vs),I2,rfl,⟨T,vs,rfl,I.hok.fresh hT,rfl,hy⟩,nx h2 s2,fun b hb=>?_⟩
  obtain ⟨ob,eb,_⟩:=obj _ _ st b hb
  have nb:b≠T:=fun z=>Nat.lt_irrefl _ (Nat.lt_of_lt_of_le (Heap.lt_size eb) (z▸hT))
  rw [cC nb]
  exact (hf b hb).1
 done:=by
  intro X hP hw hK hc i pins s σ H E I hf st hg
  obtain ⟨fp2,wr,n,Pt,St,Mid,W,hs,sub,nx,_,ok⟩:=wk X hP hw hK hc i pins s σ H I st (.inr hg)
  obtain rfl:=ok hg
  exact W.done s _ _ hs fun h2 tk k2=>⟨rfl,TY (t':=tk) (ch:=wr) I k2 fun b hb=>hf b (sub b hb)⟩
noncomputable def Iel (K:PySem.W.Frag) (l:Addr):It:=Itp (fun i H=>∃ xs v,gB K H l xs/\xs[i]? = some v) (fun i H vs=>∃ v,vs=[.int i,v] /\ ∀ xs,gB K H l xs->xs[i]? = some v) (fun i H=>∃ xs,gB K H l xs/\xs.length=i)
noncomputable def Iet (K:PySem.W.Frag) (l:Addr):It:=Itp (fun i H=>∃ xs v,iP K H l xs/\xs[i]? = some v) (fun i H vs=>∃ v,vs=[.int i,v] /\ ∀ xs,iP K H l xs->xs[i]? = some v) (fun i H=>∃ xs,iP K H l xs/\xs.length=i)
theorem y6:[V.int 0,V.int 0].length<=sizeLine:=by rw [sizeLine_eq]; decide
theorem J6 {P:Program} {w:World} {K:PySem.W.Frag} {es:List Expr} {kk:Nat} {tp:Pos} {e it l:Addr} (hei:e≠it) (hle:l≠e) (hli:l≠it) :
  Turn P w K (.Tuple es kk tp) (Iel K l) [e,it] e (fun i h=>(∃ old,IsEnum h e it i old)/\h.IsListIter it l i):=by
 refine qX (by simp) (fun i h st b hb=>?_) (fun i h h2 st k=>?_) (fun X hP hw hK hc i pins s σ H I st hg=>?_) (fun A i s Q E st q=>?_)
 ·obtain ⟨⟨old,a⟩,o,c,d1,d2⟩:=st
  rcases List.mem_cons.mp hb with rfl | hq
  ·exact ⟨_,a,fun v z=>by cases z⟩
  ·rw [List.mem_singleton.mp hq]; exact ⟨o,c,fun v z=>by rw [d2] at z; cases z⟩
 ·obtain ⟨⟨old,a⟩,b⟩:=st
  exact ⟨⟨old,k e (by simp) _ a⟩,b.at fun o q=>k it (by simp) o q⟩
 ·subst hP hw hK
  have hq:∃ xs,gB X.K H l xs:=by rcases hg with ⟨xs,_,a,_⟩ | ⟨xs,a,_⟩<;>exact ⟨xs,a⟩
  obtain ⟨xs,hq⟩:=hq
  obtain ⟨its,rv,p,hz⟩:=I.list hq
  have hl:=rv.length
  refine ⟨_,_,_,_,_,_,WalksT.enumerate (I.ok.hd hc) e it l hei hle hli its.toArray,⟨st.1,st.2,p.isList⟩,fun b hb=>hb,fun h q=>⟨q.1,q.2.1⟩,fun g=>?_,fun g=>?_⟩
  ·obtain ⟨ys,v,hy,hv⟩:=g
   obtain rfl:=I.gO hy hq
   obtain ⟨u,hu,ru⟩:=rv.get hv
   have hlt:i<ys.length:=(List.getElem?_eq_some_iff.mp hv).1
   refine ⟨by rw [List.size_toArray,<- hl]; exact hlt,fun vals q=>?_⟩
   obtain ⟨t,x,hx,rfl⟩:=q
   have ex:x=u:=by
    have:its[i]? = some x:=by simpa using hx
    rw [hu] at this; exact (Option.some.inj this).symm
   subst ex
   exact ⟨[.int i,v],y6,.cons ⟨t,rfl⟩ (.cons ru .nil),v,rfl,fun zs hzs=>by rw [I.gO hzs hq]; exact hv⟩
  ·obtain ⟨ys,hy,e2⟩:=g
   obtain rfl:=I.gO hy hq
   rw [List.size_toArray,<- hl,e2]
 ·obtain ⟨⟨old,a⟩,b⟩:=st
  exact wpAny_pyIter_enum a q
noncomputable def Izl (K:PySem.W.Frag) (l m:Addr):It:=Itp (fun i H=>∃ xs ys v u,gB K H l xs/\gB K H m ys/\xs[i]? = some v/\ys[i]? = some u) (fun i H vs=>∃ v u,vs=[v,u]/\(∀ xs,gB K H l xs->xs[i]? = some v) /\ ∀ ys,gB K H m ys->ys[i]? = some u)
 (fun i H=>∃ xs ys,gB K H l xs/\gB K H m ys/\min xs.length ys.length=i)
theorem TZ {P:Program} {w:World} {K:PySem.W.Frag} {es:List Expr} {kk:Nat} {tp:Pos} {z TI TO i1 i2 l m:Addr} (D:ZipApart z TI TO i1 i2 l m) :
  Turn P w K (.Tuple es kk tp) (Izl K l m) [z,TI,TO,i1,i2] z (fun i h=>IsZip h z TI TO .none/\IsPair h TI (.ref i1) (.ref i2)/\(∃ a b,IsPair h TO a b)/\h.IsListIter i1 l i/\h.IsListIter i2 m i):=by
 refine qX (by simp) (fun i h st b hb=>?_) (fun i h h2 st k=>?_) (fun X hP hw hK hc i pins s σ H I st hg=>?_) (fun A i s Q E st q=>?_)
 ·obtain ⟨a1,a2,⟨x,y,a3⟩,⟨o4,c4,_,d4⟩,o5,c5,_,d5⟩:=st
  simp only [List.mem_cons,or_false,List.not_mem_nil] at hb
  rcases hb with rfl | rfl | rfl | rfl | rfl
  ·exact ⟨_,a1,fun v z=>by cases z⟩
  ·exact ⟨_,a2,fun v z=>by cases z⟩
  ·exact ⟨_,a3,fun v z=>by cases z⟩
  ·exact ⟨o4,c4,fun v z=>by rw [d4] at z; cases z⟩
  ·exact ⟨o5,c5,fun v z=>by rw [d5] at z; cases z⟩
 ·obtain ⟨a1,a2,⟨x,y,a3⟩,a4,a5⟩:=st
  exact ⟨k z (by simp) _ a1,k TI (by simp) _ a2,⟨x,y,k TO (by simp) _ a3⟩,a4.at fun o q=>k i1 (by simp) o q,a5.at fun o q=>k i2 (by simp) o q⟩
 ·subst hP hw hK
  have hq:∃ xs ys,gB X.K H l xs/\gB X.K H m ys:=by rcases hg with ⟨xs,ys,_,_,a,b,_⟩ | ⟨xs,ys,a,b,_⟩<;>exact ⟨xs,ys,a,b⟩
  obtain ⟨xs,ys,hq,hq2⟩:=hq
  obtain ⟨its,rv,p,hz⟩:=I.list hq
  obtain ⟨its2,rv2,p2,hz2⟩:=I.list hq2
  have hl:=rv.length
  have hl2:=rv2.length
  refine ⟨_,_,_,_,_,_,WalksT.zip2 (I.ok.hd hc) z TI TO i1 i2 l m D its.toArray its2.toArray,⟨st.1,st.2.1,st.2.2.1,st.2.2.2.1,st.2.2.2.2,p.isList,p2.isList⟩,fun b hb=>?_,fun h q=>⟨q.1,q.2.1,q.2.2.1,q.2.2.2.1,q.2.2.2.2.1⟩,fun g=>?_,fun g=>?_⟩
  ·simp only [List.mem_cons,List.not_mem_nil,or_false] at hb ⊢
   rcases hb with rfl | rfl | rfl | rfl<;>simp
  ·obtain ⟨x',y',v,u,hy,hy2,hv,hu⟩:=g
   obtain rfl:=I.gO hy hq
   obtain rfl:=I.gO hy2 hq2
   obtain ⟨r,er,rr⟩:=rv.get hv
   obtain ⟨r2,er2,rr2⟩:=rv2.get hu
   have hlt:i<x'.length:=(List.getElem?_eq_some_iff.mp hv).1
   have hlt2:i<y'.length:=(List.getElem?_eq_some_iff.mp hu).1
   refine ⟨by rw [List.size_toArray,List.size_toArray,<- hl,<- hl2]; omega,fun vals q=>?_⟩
   obtain ⟨x,y,hx,hy',rfl⟩:=q
   have ex:x=r:=by
    have:its[i]? = some x:=by simpa using hx
    rw [er] at this; exact (Option.some.inj this).symm
   have ey:y=r2:=by
    have:its2[i]? = some y:=by simpa using hy'
    rw [er2] at this; exact (Option.some.inj this).symm
   subst ex ey
   exact ⟨[v,u],y6,.cons rr (.cons rr2 .nil),v,u,rfl,fun zs hzs=>by rw [I.gO hzs hq]; exact hv,fun zs hzs=>by rw [I.gO hzs hq2]; exact hu⟩
  ·obtain ⟨x',y',hy,hy2,e2⟩:=g
   obtain rfl:=I.gO hy hq
   obtain rfl:=I.gO hy2 hq2
   rw [List.size_toArray,List.size_toArray,<- hl,<- hl2,e2]
 ·exact wpAny_pyIter_zip st.1 q
section
variable {prog:Program} {w:World} {A:Around} {E:Value->Shared->Prop} {s:Shared}
theorem T2 {it t:Addr} {i:Nat} {items:Array Value} {x:Value} {Q:Value->Shared->Prop} (hit:s.heap.IsTupleIter it t i) (ht:s.heap.IsTuple t items) (hx:items[i]? = some x)
  (hQ:∀ h',h'.IsTupleIter it t (i+1)->Heap.SameBut it s.heap h'->Q x { s with heap:=h' }):wpAny (model prog w) A (Builtin.SmallTypes.nextOf (.ref it)) Q E s:=by
 obtain ⟨⟨ol,hol,_,nl,hdl⟩,o,ho,hc,hd⟩:=And.intro ht hit
 refine wpAny_bind (m:=callSpecial? _ _) (wpAny_callSpecial?_slot hit.typeIs F.slot_tuple_iterator_next (wpAny_call_entry F.slot_tuple_iterator_next hit.typeIs F.entry_tuple_iterator_next ?_ (F.args_tuple_iterator_next_1 _)))
 refine wpAny_bind (m:=field _ 0) (wpAny_field ho hd (x:=.ref t) rfl ?_)
 show wpAny _ _ (if false=true then _ else _) _ _ s
 rw [if_neg Bool.false_ne_true]
 refine wpAny_bind (m:=field _ 1) (wpAny_field ho hd (x:=.int i 0) rfl (wpAny_bind (m:=seqItems? _) (wpAny_seqItems hol hdl ?_)))
 simp only [hx,Int.toNat_natCast]
 refine wpAny_bind (wpAny_setField ho hd (by simp) (wpAny_pure ⟨x,rfl,wpAny_pure (hQ _ ⟨_,Heap.get?_update_self _ ho (Obj.isFreed_of_fields (Obj.data_mapFields hd _)),(Obj.cls_mapFields ..).trans hc,?_⟩ (Heap.SameBut.update ..))⟩))
 rw [Obj.data_mapFields hd]
 simp [rawInt]
theorem OI {it t:Addr} {i:Nat} {items:Array Value} {Q:Value->Shared->Prop} (hh:A.handled=none) (hit:s.heap.IsTupleIter it t i) (ht:s.heap.IsTuple t items) (hx:items[i]? = none)
  (hE:∀ h' e,Heap.ExtBut it s.heap h'->(∃ o,h'.get? e=some o/\o.cls=.type "StopIteration")->E (.ref e) { s with heap:=h' }):wpAny (model prog w) A (Builtin.SmallTypes.nextOf (.ref it)) Q E s:=by
 obtain ⟨⟨ol,hol,_,nl,hdl⟩,o,ho,hc,hd⟩:=And.intro ht hit
 refine wpAny_bind (m:=callSpecial? _ _) (wpAny_callSpecial?_slot hit.typeIs F.slot_tuple_iterator_next (wpAny_call_entry F.slot_tuple_iterator_next hit.typeIs F.entry_tuple_iterator_next ?_ (F.args_tuple_iterator_next_1 _)))
 refine wpAny_bind (m:=field _ 0) (wpAny_field ho hd (x:=.ref t) rfl ?_)
 show wpAny _ _ (if false=true then _ else _) _ _ s
 rw [if_neg Bool.false_ne_true]
 refine wpAny_bind (m:=field _ 1) (wpAny_field ho hd (x:=.int i 0) rfl (wpAny_bind (m:=seqItems? _) (wpAny_seqItems hol hdl ?_)))
 simp only [hx,Int.toNat_natCast]
 refine wpAny_bind (wpAny_rule (wpAny_bind (m:=setField _ _ _) (wpAny_setField ho hd (by simp) ?_)))
 have hh2:A.in1.handled=none:=hh
 wp_walk
 unfold raiseNew
 apply wpAny_bind
 apply wpAny_handled
 rw [hh2]
 exact wpAny_bind (wpAny_pure (wpAny_throw (hE _ _ (((Heap.SameBut.update ..).extBut.push _).push _) ⟨_,Heap.get?_push_size _ rfl,rfl⟩)))
theorem aBN (hh:A.handled=none) (it t:Addr) (hne:t≠it) (items:Array Value):Draws prog w A it [it,t] items.size (fun i v=>items[i]? = some v) (fun i h=>h.IsTupleIter it t i/\h.IsTuple t items) where
 live:=fun i h st=>by obtain ⟨⟨o,ho,_⟩,_⟩:=st; exact ⟨o,ho⟩
 frame:=fun i h h' st k=>by
  obtain ⟨⟨o,ho,r⟩,o2,ho2,r2⟩:=st
  exact ⟨⟨o,k it (by simp) o ho,r⟩,o2,k t (by simp) o2 ho2,r2⟩
 item:=fun i s Q E hi st q=>T2 st.1 st.2 (x:=items[i]) (Array.getElem?_eq_getElem hi) fun h' a b=>q _ h' s.toks (Array.getElem?_eq_getElem hi) ⟨a,st.2.extBut b.extBut hne⟩ b
 done:=fun s Q E st q=>OI hh st.1 st.2 (Array.getElem?_eq_none (Nat.le_refl _)) q
theorem OJ (l:Addr) (items:Array Value):Meets (Builtin.«enumerate.__new__» ⟨[.type "enumerate",.ref l],[]⟩) (fun _ R s=>s.heap.IsTuple l items /\
  R (.ok (.ret (.ref (s.heap.push { cls:=.type "tuple_iterator",data:=.fields #[.ref l,.int 0 0] }).objs.size))) { s with heap:=(s.heap.push { cls:=.type "tuple_iterator",data:=.fields #[.ref l,.int 0 0] }).push { cls:=.type "enumerate",data:=.fields #[.none,.bool false,.ref s.heap.objs.size,rawInt 0,.none,.none] } }):=by
 refine .of_wp fun p0 w0 A0 R0 s h=>?_
 obtain ⟨hl,h⟩:=h
 obtain ⟨hp0,g0,d,tk,os⟩:=s
 have hsub:=sub_enumerate
 wp_walk using wpAny_pyIter_tuple hl
 refine wpAny_stack_any fun _=>wpAny_pure ?_
 split<;>first
  | (rename_i c _ _ _ _ _; cases (c == Value.type "enumerate")<;>(wp_walk using wpAny_pyIter_tuple hl; exact ⟨_,rfl,h⟩))
  | (wp_walk using wpAny_pyIter_tuple hl; exact ⟨_,rfl,h⟩)
theorem J7 {l:Addr} {items:Array Value} {Q:Value->Shared->Prop} (hT:s.heap.IsTuple l items)
  (h:∀ h',IsEnum h' (s.heap.objs.size+1) s.heap.objs.size 0 .none->h'.IsTupleIter s.heap.objs.size l 0->(∀ b o,s.heap.get? b=some o->h'.get? b=some o)->Q (.ref (s.heap.objs.size+1)) { s with heap:=h' }):wpAny (model prog w) A (call (.type "enumerate") [.ref l]) Q E s:=by
 refine callType_new F.called_enumerate (by decide) (F.typeCall_enumerate_1 _) (F.newCall_enumerate_1 _) (fun obj=>F.args_object_init_2 obj _) F.entry_enumerate_new (OJ l items) ⟨hT,?_⟩
 generalize hh1:s.heap.push { cls:=.type "tuple_iterator",data:=.fields #[.ref l,.int 0 0] }=h1
 have e1:h1.objs.size=s.heap.objs.size+1:=by rw [<- hh1,Heap.size_push]
 have g1:h1.get? s.heap.objs.size=some { cls:=.type "tuple_iterator",data:=.fields #[.ref l,.int 0 0] }:=by rw [<- hh1]; exact Heap.get?_push_size _ rfl
 have k1:∀ b o,s.heap.get? b=some o->h1.get? b=some o:=fun b o e=>by rw [<- hh1]; exact Heap.get?_push_of_some _ e
 generalize hh2:h1.push { cls:=.type "enumerate",data:=.fields #[.none,.bool false,.ref s.heap.objs.size,rawInt 0,.none,.none] }=h2
 have g2:h2.get? h1.objs.size=some { cls:=.type "enumerate",data:=.fields #[.none,.bool false,.ref s.heap.objs.size,rawInt 0,.none,.none] }:=by rw [<- hh2]; exact Heap.get?_push_size _ rfl
 have k2:∀ b o,h1.get? b=some o->h2.get? b=some o:=fun b o e=>by rw [<- hh2]; exact Heap.get?_push_of_some _ e
 refine ⟨⟨_,g2,rfl⟩,?_⟩
 rw [e1] at g2 ⊢
 exact h h2 g2 ⟨_,k2 _ _ g1,rfl,rfl⟩ fun b o e=>k2 b o (k1 b o e)
end
theorem J8 {P:Program} {w:World} {K:PySem.W.Frag} {es:List Expr} {kk:Nat} {tp:Pos} {e it l:Addr} (hei:e≠it) (hle:l≠e) (hli:l≠it) :
  Turn P w K (.Tuple es kk tp) (Iet K l) [e,it] e (fun i h=>(∃ old,IsEnum h e it i old)/\h.IsTupleIter it l i):=by
 refine qX (by simp) (fun i h st b hb=>?_) (fun i h h2 st k=>?_) (fun X hP hw hK hc i pins s σ H I st hg=>?_) (fun A i s Q E st q=>?_)
 ·obtain ⟨⟨old,a⟩,o,c,d1,d2⟩:=st
  rcases List.mem_cons.mp hb with rfl | hq
  ·exact ⟨_,a,fun v z=>by cases z⟩
  ·rw [List.mem_singleton.mp hq]; exact ⟨o,c,fun v z=>by rw [d2] at z; cases z⟩
 ·obtain ⟨⟨old,a⟩,o,b,r⟩:=st
  exact ⟨⟨old,k e (by simp) _ a⟩,o,k it (by simp) o b,r⟩
 ·subst hP hw hK
  have hq:∃ xs,iP X.K H l xs:=by rcases hg with ⟨xs,_,a,_⟩ | ⟨xs,a,_⟩<;>exact ⟨xs,a⟩
  obtain ⟨xs,hq⟩:=hq
  obtain ⟨its,rv,p,hz⟩:=I.tuple hq
  have hl:=rv.length
  have D:Draws X.prog X.w X.A.in1 it [it,l] its.toArray.size (fun i v=>its.toArray[i]? = some v) (fun i h=>h.IsTupleIter it l i/\h.IsTuple l its.toArray):=aBN (show X.A.in1.handled=none from I.ok.hd hc) it l hli its.toArray
  have hef:e∉[it,l]:=fun z=>by
   rcases List.mem_cons.mp z with z1 | z1
   ·exact hei z1
   ·exact hle (List.mem_singleton.mp z1).symm
  refine ⟨_,_,_,_,_,_,WalksT.enumerateD D e hei hef (by simp),⟨st.1,st.2,p⟩,fun b hb=>hb,fun h q=>⟨q.1,q.2.1⟩,fun g=>?_,fun g=>?_⟩
  ·obtain ⟨ys,v,hy,hv⟩:=g
   obtain rfl:=I.pG hy hq
   obtain ⟨u,hu,ru⟩:=rv.get hv
   have hlt:i<ys.length:=(List.getElem?_eq_some_iff.mp hv).1
   refine ⟨by rw [List.size_toArray,<- hl]; exact hlt,fun vals q=>?_⟩
   obtain ⟨t,x,hx,rfl⟩:=q
   have ex:x=u:=by
    have:its[i]? = some x:=by simpa using hx
    rw [hu] at this; exact (Option.some.inj this).symm
   subst ex
   exact ⟨[.int i,v],y6,.cons ⟨t,rfl⟩ (.cons ru .nil),v,rfl,fun zs hzs=>by rw [I.pG hzs hq]; exact hv⟩
  ·obtain ⟨ys,hy,e2⟩:=g
   obtain rfl:=I.pG hy hq
   rw [List.size_toArray,<- hl,e2]
 ·obtain ⟨⟨old,a⟩,b⟩:=st
  exact wpAny_pyIter_enum a q
section
variable {X:Cx} {es:List Expr} {kk:Nat} {tp:Pos}
theorem XS {a:Expr} {ta:TA} {p pos:Pos} (hg:Gl X "enumerate") (hm:X.mg "enumerate" = none) (ha:PA X [a] ta) (hs:starEach [a] X.env=[(false,eval a X.env)]:=by rfl) :
  PI X (.Tuple es kk tp) (.Call (.Name "enumerate" p) [a] [] pos) (fun σ H R=>ta σ H fun vs H1=>∃ l,vs=[.ref l]/\(((∃ xs,gB X.K H1 l xs)/\R (Iel X.K l) H1)\/((∃ xs,iP X.K H1 l xs)/\R (Iet X.K l) H1))):=by
 intro pins s σ H R I h
 refine Call_ (m7 I hg hm boot_enumerate (PyProof.Rows.callWith_type1 (fB (ha pos pins s σ H _ I h) fun us s1 ⟨vs,H1,I1,r1,q1⟩=>?_) hs rfl))
 obtain ⟨l,e,q⟩:=q1
 subst e
 obtain ⟨u,rfl,ru⟩:=vals1 r1
 cases ru
 have fo:∀ b∈[s1.heap.objs.size+1,s1.heap.objs.size],qV X pins H1 b:=fun b hb=>by
  have hle:s1.heap.objs.size<=b:=by
   simp only [List.mem_cons,or_false,List.not_mem_nil] at hb
   rcases hb with rfl | rfl
   ·exact Nat.le_succ _
   ·exact Nat.le_refl _
  exact I1.JJ hle (I1.hok.fresh hle)
 rcases q with ⟨⟨xs,hq⟩,q⟩ | ⟨⟨xs,hq⟩,q⟩
 ·obtain ⟨its,rv,pl,hz⟩:=I1.list hq
  have hlt:l<s1.heap.objs.size:=by obtain ⟨o,n,e,_⟩:=pl; exact Heap.lt_size e
  refine call_enumerate_list pl.isList fun h' he hi hsz hk=>wpAny_pyIter_enum he ?_
  exact ⟨s1.heap.objs.size+1,_,_,_,H1,rfl,I1.kept (t':=s1.toks) hk,J6 (Nat.succ_ne_self _) (Nat.ne_of_lt (Nat.lt_succ_of_lt hlt)) (Nat.ne_of_lt hlt),⟨⟨_,he⟩,hi⟩,fo,q⟩
 ·obtain ⟨its,rv,pl,hz⟩:=I1.tuple hq
  have hlt:l<s1.heap.objs.size:=pl.lt
  refine J7 (items:=its.toArray) pl fun h' he hi hk=>wpAny_pyIter_enum he ?_
  exact ⟨s1.heap.objs.size+1,_,_,_,H1,rfl,I1.kept (t':=s1.toks) hk,J8 (Nat.succ_ne_self _) (Nat.ne_of_lt (Nat.lt_succ_of_lt hlt)) (Nat.ne_of_lt hlt),⟨⟨_,he⟩,hi⟩,fo,q⟩
theorem aBO {a b:Expr} {ta:TA} {p pos:Pos} (hg:Gl X "zip") (hm:X.mg "zip" = none) (ha:PA X [a,b] ta) (hs:starEach [a,b] X.env=[(false,eval a X.env),(false,eval b X.env)]:=by rfl) (hs2:starEach [b] X.env=[(false,eval b X.env)]:=by rfl) :
  PI X (.Tuple es kk tp) (.Call (.Name "zip" p) [a,b] [] pos) (fun σ H R=>ta σ H fun vs H1=>∃ l m xs ys,vs=[.ref l,.ref m]/\gB X.K H1 l xs/\gB X.K H1 m ys/\R (Izl X.K l m) H1):=by
 intro pins s σ H R I h
 refine Call_ (m7 I hg hm boot_zip (PyProof.Rows.callWith_type1 (fB (ha pos pins s σ H _ I h) fun us s1 ⟨vs,H1,I1,r1,q1⟩=>?_) (by rw [hs,hs2]) (by rw [hs2]; rfl)))
 obtain ⟨l,m,xs,ys,e,hq,hq2,q⟩:=q1
 subst e
 obtain ⟨u,u2,rfl,ru,ru2⟩:=vals2 r1
 cases ru
 cases ru2
 obtain ⟨its,rv,pl,hz⟩:=I1.list hq
 obtain ⟨its2,rv2,pl2,hz2⟩:=I1.list hq2
 have hlt:l<s1.heap.objs.size:=by obtain ⟨o,n,e,_⟩:=pl; exact Heap.lt_size e
 have hlt2:m<s1.heap.objs.size:=by obtain ⟨o,n,e,_⟩:=pl2; exact Heap.lt_size e
 refine call_zip_2 pl.isList pl2.isList fun h' hZ hTI hTO hi1 hi2 hsz hk=>wpAny_pyIter_zip hZ ?_
 refine ⟨s1.heap.objs.size+4,_,_,_,H1,rfl,I1.kept (t':=s1.toks) hk,TZ (zipApart_new hlt hlt2),⟨hZ,hTI,⟨_,_,hTO⟩,hi1,hi2⟩,fun b hb=>?_,q⟩
 have hle:s1.heap.objs.size<=b:=by
  simp only [List.mem_cons,or_false,List.not_mem_nil] at hb
  rcases hb with rfl | rfl | rfl | rfl | rfl
  ·exact Nat.le_add_right _ 4
  ·exact Nat.le_add_right _ 2
  ·exact Nat.le_add_right _ 3
  ·exact Nat.le_refl _
  ·exact Nat.le_add_right _ 1
 exact I1.JJ hle (I1.hok.fresh hle)
noncomputable def uR (ds:List D):List D:=ds.zipIdx.map fun p=>.tup [.int (p.2:Int),p.1]
noncomputable def T4 (a b:List D):List D:=(a.zip b).map fun p=>.tup [p.1,p.2]
theorem B7 {ds:List D} {i:Nat} {d:D} (h:(uR ds)[i]? = some d):∃ d0,ds[i]? = some d0/\d=.tup [.int (i:Int),d0]:=by
 unfold uR at h
 rw [List.getElem?_map,List.getElem?_zipIdx] at h
 cases q:ds[i]? with
 | none=>rw [q] at h; cases h
 | some d0 =>
  rw [q] at h
  simp at h
  exact ⟨d0,rfl,h.symm⟩
theorem T5 {a b:List D} {i:Nat} {d:D} (h:(T4 a b)[i]? = some d):∃ x y,a[i]? = some x/\b[i]? = some y/\d=.tup [x,y]:=by
 unfold T4 at h
 rw [List.getElem?_map] at h
 cases q:(a.zip b)[i]? with
 | none=>rw [q] at h; cases h
 | some xy =>
  rw [q] at h
  obtain ⟨h1,h2⟩:=List.getElem?_zip_eq_some.mp q
  exact ⟨xy.1,xy.2,h1,h2,(Option.some.inj h).symm⟩
theorem ES {K:PySem.W.Frag} {S:Addr->Prop} {H:Hp} {T:Addr} {x y:V} {dx dy:D} (fr:H T=none) (hx:Dn K S H dx x) (hy:Dn K S H dy y):Dn K S (upd H T (.tup [x,y])) (.tup [dx,dy]) (.ref T):=by
 simp only [Dn]
 exact ⟨T,[x,y],rfl,bJ,bA.fits (.same (aY fr)) _ _ (bA.cons hx (bA.one hy))⟩
theorem OK {K:PySem.W.Frag} {a:Addr} {ds:List D}:Wlk K (Iel K a) (uR ds) [(.lst ds,.ref a)] where
 go:=fun S H fc hg i d e=>by
  have h:=hg _ (List.mem_singleton.mpr rfl)
  simp only [Dn] at h
  obtain ⟨b,xs,eb,hb,sb,dn⟩:=h
  injection eb with eb
  subst eb
  obtain ⟨d0,e0,rfl⟩:=B7 e
  obtain ⟨v,ev,dv⟩:=dn.get e0
  refine ⟨⟨xs,v,gB.of hb,ev⟩,fun x H' y=>?_⟩
  obtain ⟨T,vs,rfl,fr,rfl,v',rfl,hy⟩:=y
  have ex:=hy xs (gB.of hb)
  rw [ev] at ex
  cases ex
  exact ⟨aY fr,ES fr (by simp only [Dn]) dv⟩
 stop:=fun S H hg i hi=>by
  have h:=hg _ (List.mem_singleton.mpr rfl)
  simp only [Dn] at h
  obtain ⟨b,xs,eb,hb,sb,dn⟩:=h
  injection eb with eb
  subst eb
  exact ⟨xs,gB.of hb,by rw [<- dn.len,<- hi]; simp [uR]⟩
theorem OL {K:PySem.W.Frag} {a:Addr} {ds:List D}:Wlk K (Iet K a) (uR ds) [(.tup ds,.ref a)] where
 go:=fun S H fc hg i d e=>by
  have h:=hg _ (List.mem_singleton.mpr rfl)
  simp only [Dn] at h
  obtain ⟨b,xs,eb,hb,dn⟩:=h
  injection eb with eb
  subst eb
  obtain ⟨d0,e0,rfl⟩:=B7 e
  obtain ⟨v,ev,dv⟩:=dn.get e0
  refine ⟨⟨xs,v,(iP.of hb),ev⟩,fun x H' y=>?_⟩
  obtain ⟨T,vs,rfl,fr,rfl,v',rfl,hy⟩:=y
  have ex:=hy xs (iP.of hb)
  rw [ev] at ex
  cases ex
  exact ⟨aY fr,ES fr (by simp only [Dn]) dv⟩
 stop:=fun S H hg i hi=>by
  have h:=hg _ (List.mem_singleton.mpr rfl)
  simp only [Dn] at h
  obtain ⟨b,xs,eb,hb,dn⟩:=h
  injection eb with eb
  subst eb
  exact ⟨xs,(iP.of hb),by rw [<- dn.len,<- hi]; simp [uR]⟩
theorem XT {K:PySem.W.Frag} {a c:Addr} {ds es:List D}:Wlk K (Izl K a c) (T4 ds es) [(.lst ds,.ref a),(.lst es,.ref c)] where
 go:=fun S H fc hg i d e=>by
  have h:=hg (.lst ds,.ref a) (by simp)
  have h2:=hg (.lst es,.ref c) (by simp)
  simp only [Dn] at h h2
  obtain ⟨b,xs,eb,hb,sb,dn⟩:=h
  obtain ⟨b2,ys,eb2,hb2,sb2,MW⟩:=h2
  injection eb with eb
  injection eb2 with eb2
  subst eb eb2
  obtain ⟨x0,y0,e0,e1,rfl⟩:=T5 e
  obtain ⟨v,ev,dv⟩:=dn.get e0
  obtain ⟨u,eu,du⟩:=MW.get e1
  refine ⟨⟨xs,ys,v,u,gB.of hb,gB.of hb2,ev,eu⟩,fun x H' y=>?_⟩
  obtain ⟨T,vs,rfl,fr,rfl,v',u',rfl,hy,hy2⟩:=y
  have ex:=hy xs (gB.of hb)
  have ex2:=hy2 ys (gB.of hb2)
  rw [ev] at ex
  rw [eu] at ex2
  cases ex
  cases ex2
  exact ⟨aY fr,ES fr dv du⟩
 stop:=fun S H hg i hi=>by
  have h:=hg (.lst ds,.ref a) (by simp)
  have h2:=hg (.lst es,.ref c) (by simp)
  simp only [Dn] at h h2
  obtain ⟨b,xs,eb,hb,sb,dn⟩:=h
  obtain ⟨b2,ys,eb2,hb2,sb2,MW⟩:=h2
  injection eb with eb
  injection eb2 with eb2
  subst eb eb2
  exact ⟨xs,ys,gB.of hb,gB.of hb2,by rw [<- dn.len,<- MW.len,<- hi]; simp [T4]⟩
noncomputable def aDc (t:WA):WI:=fun ρ Q=>t ρ fun ds=>match ds with
 | [.lst es]=>Q (uR es)
 | [.tup es]=>Q (uR es)
 | _=>False
noncomputable def aJB (t:WA):WI:=fun ρ Q=>t ρ fun ds=>match ds with
 | [.lst a,.lst b]=>Q (T4 a b)
 | _=>False
theorem J9 {a:Expr} {t:WA} {p pos:Pos} (hm:X.mg "enumerate" = none) (ha:yV X [a] t) (hg:Gl X "enumerate" := by rfl) (hs:starEach [a] X.env=[(false,eval a X.env)]:=by rfl):TD X (.Tuple es kk tp) (.Call (.Name "enumerate" p) [a] [] pos) (aDc t) :=
 OE (XS hg hm ha hs) fun σ H R aJC=>by
  obtain ⟨S,ρ,Q3,fc,sl,ht,k⟩:=aJC
  refine ⟨S,ρ,_,fc,sl,ht,fun vs H1 ds s1 d1 q1=>?_⟩
  split at q1
  ·obtain ⟨v,r,rfl,h1,h2⟩:=d1.bW
   simp only [bA] at h2
   subst h2
   have h1':=h1
   simp only [Dn] at h1
   obtain ⟨l,xs,rfl,hl,sl',da⟩:=h1
   exact ⟨l,rfl,.inl ⟨⟨xs,gB.of hl⟩,k _ H1 _ [(_,.ref l)] s1 (fun g hg=>by cases List.mem_singleton.mp hg; exact h1') OK q1⟩⟩
  ·obtain ⟨v,r,rfl,h1,h2⟩:=d1.bW
   simp only [bA] at h2
   subst h2
   have h1':=h1
   simp only [Dn] at h1
   obtain ⟨l,xs,rfl,hl,da⟩:=h1
   exact ⟨l,rfl,.inr ⟨⟨xs,(iP.of hl)⟩,k _ H1 _ [(_,.ref l)] s1 (fun g hg=>by cases List.mem_singleton.mp hg; exact h1') OL q1⟩⟩
  ·exact q1.elim
theorem aJD {a b:Expr} {t:WA} {p pos:Pos} (hm:X.mg "zip" = none) (ha:yV X [a,b] t) (hg:Gl X "zip" := by rfl) (hs:starEach [a,b] X.env=[(false,eval a X.env),(false,eval b X.env)]:=by rfl) (hs2:starEach [b] X.env=[(false,eval b X.env)]:=by rfl) :
  TD X (.Tuple es kk tp) (.Call (.Name "zip" p) [a,b] [] pos) (aJB t) :=
 OE (aBO hg hm ha hs hs2) fun σ H R aJE=>by
  obtain ⟨S,ρ,Q3,fc,sl,ht,k⟩:=aJE
  refine ⟨S,ρ,_,fc,sl,ht,fun vs H1 ds s1 d1 q1=>?_⟩
  split at q1
  ·obtain ⟨v,r,rfl,h1,h2⟩:=d1.bW
   obtain ⟨v2,r2,rfl,h3,h4⟩:=h2.bW
   simp only [bA] at h4
   subst h4
   have h1':=h1
   have h3':=h3
   simp only [Dn] at h1 h3
   obtain ⟨l,xs,rfl,hl,sl',da⟩:=h1
   obtain ⟨m,ys,rfl,hl2,sl2,da2⟩:=h3
   refine ⟨l,m,xs,ys,rfl,gB.of hl,gB.of hl2,k _ H1 _ [(_,.ref l),(_,.ref m)] s1 (fun g hg=>?_) XT q1⟩
   rcases List.mem_cons.mp hg with rfl | hg
   ·exact h1'
   ·cases List.mem_singleton.mp hg; exact h3'
  ·exact q1.elim
end
section
variable {X:Cx} {a b:Expr} {pos:Pos} {ta tb:WE}
theorem XU:lO X (binaryOp .Mult) (rI IntMulOk fun i j=>.int (i*j)):=opI fun _ _ _ _ _ _ _ hc q=>mul_int q hc
noncomputable def aDd:F2:=EL IntMulOk fun i j=>.int (i*j)
theorem aDe (ha:dO X a ta) (hb:dO X b tb):dO X (.BinOp a .Mult b pos) (iQ aDd ta tb):=op3 XU EM ha hb
end
theorem XW {i j:Int} {m n:Nat} (hi:i.natAbs<2 ^ m) (hj:j.natAbs<2 ^ n) (h:m+n<=134217728):IntMulOk i j:=by
 exact mulOk_of_bits (intBits_le hi) (intBits_le hj) h
section
variable {X:Cx}
noncomputable def aOr (t:WE):WT:=fun ρ Q=>t ρ fun d=>match d with
 | .lst ds=>Q (!ds.isEmpty)
 | .tup ds=>Q (!ds.isEmpty)
 | _=>False
theorem bA.empty {K:PySem.W.Frag} {S:Addr->Prop} {H:Hp} {ds:List D} {xs:List V} (h:bA K S H ds xs):ds.isEmpty=xs.isEmpty:=by
 have:=h.len
 cases ds<;>cases xs<;>simp at this ⊢
noncomputable def aDf:List V->Hp->VK->Prop:=fun xs H Q=>∃ (a:Addr) (ns:List Int),xs=[.ref a]/\H a=some (.lst (ns.map V.int))/\Q (.int ns.sum) H
theorem OM (hc:X.calm=true):jA X (.builtin "sum") aDf:=by
 intro pins s σ H xs us Q I r h
 obtain ⟨a,ns,rfl,ha,q⟩:=h
 obtain ⟨u,rfl,ru⟩:=vals1 r
 cases ru
 obtain ⟨its,rv,p,hz⟩:=I.list (gB.of ha)
 have hi:=intsAre_of rv
 obtain ⟨zs,ez⟩:=hi.allInts.items
 have en:zs.toList.map (·.1)=ns:=by
  rw [<- nums_intItems,<- ez]
  exact hi.numsOf
 have ev:preSum (numAt zs) zs.size=ns.sum:=by rw [preSum_eq,List.take_of_length_le (by simp),en]
 refine sum_intListG (I.ok.hd hc) (ez▸p.isList) fun h' tk t' hk=>⟨.int ns.sum,H,I.kept hk,⟨t',by rw [ev]⟩,q⟩
noncomputable def sumF:F1
 | [.lst ds],Q=>(match intsOf ds with | some ns=>Q (.int ns.sum) | none=>False)
 | _,_=>False
theorem ON {ns:List Int} {Q:D->Prop}:sumF [.lst (ns.map D.int)] Q=Q (.int ns.sum):=by
 show (match intsOf (ns.map D.int) with | some ns=>Q (.int ns.sum) | none=>False)=_
 rw [fR]
theorem aBQ {K:PySem.W.Frag}:C3 K aDf sumF:=by
 intro S H xs ds Q3 Q fc hd hf k
 match ds,hf with
 | [.lst es],hf =>
  obtain ⟨v,r,rfl,h1,h2⟩:=hd.bW
  simp only [bA] at h2
  subst h2
  simp only [Dn] at h1
  obtain ⟨a,ys,rfl,ha,sa,da⟩:=h1
  have hf2:(match intsOf es with | some ns=>Q3 (.int ns.sum) | none=>False):=hf
  clear hf
  cases q:intsOf es with
  | none=>rw [q] at hf2; exact hf2.elim
  | some ns =>
   rw [q] at hf2
   have e:=t9 q
   subst e
   have e2:=bA.ints.mp da
   subst e2
   exact ⟨a,ns,rfl,ha,k _ H _ (Same.refl H) (by simp only [Dn]) hf2⟩
theorem aJF {p pos:Pos} {e:Expr} {t:WA} (hc:X.calm=true) (hm:X.mg "sum" = none) (ha:yV X [e] t) (hg:Gl X "sum" := by rfl)
  (he:starEach [e] X.env=(false,eval e X.env)::starEach [] X.env:=by rfl):dO X (.Call (.Name "sum" p) [e] [] pos) (S7 sumF t):=y1 (OM hc) aBQ PyProof.Rows.boot_sum hg hm ha (by decide) (by decide) he (by rfl)
noncomputable abbrev WO:=cD->(Option Int->Prop)->Prop
noncomputable def aDg (K:PySem.W.Frag) (t:WO):TO:=fun σ H Q=>∃ (S:Addr->Prop) (ρ:cD) (Q3:Option Int->Prop),(∀ a,H a=none->S a)/\Sl K S H ρ σ/\t ρ Q3 /\ ∀ o H',Same H H'->Q3 o->Q o H'
noncomputable def PO3 (X:Cx) (e:Option Expr) (t:WO):Prop:=PO X e (aDg X.K t)
noncomputable def XX:WO:=fun _ Q=>Q none
noncomputable def aDh (t:WE):WO:=fun ρ Q=>t ρ fun d=>match d with
 | .int i=>Q (some i)
 | _=>False
theorem aJG:PO3 X none XX:=fun pins s σ H Q I aJH=>by obtain ⟨S,ρ,Q3,fc,sl,ht,k⟩:=aJH; exact WU pins s σ H Q I (k none H (Same.refl H) ht)
theorem po3 {e:Expr} {t:WE} (h:dO X e t):PO3 X (some e) (aDh t):=fun pins s σ H Q I aJI=>by
 obtain ⟨S,ρ,Q3,fc,sl,ht,k⟩:=aJI
 refine WV h pins s σ H Q I ⟨S,ρ,_,fc,sl,ht,fun v H1 d s1 d1 q1=>?_⟩
 cases d with
 | int i=>simp only [Dn] at d1; exact ⟨i,d1,k _ H1 s1 q1⟩
 | _=>exact q1.elim
noncomputable def cutD (xs:List D) (lo hi:Option Int):List D:=(xs.drop (HT.hV xs.length 0 lo)).take (HT.hV xs.length xs.length hi - HT.hV xs.length 0 lo)
theorem bA.cut {K:PySem.W.Frag} {S:Addr->Prop} {H:Hp} {ds:List D} {xs:List V} {lo hi:Option Int} (h:bA K S H ds xs):bA K S H (cutD ds lo hi) (G2 xs lo hi):=by
 unfold cutD G2
 rw [h.len]
 exact (h.drop _).take _
theorem T6 {prog:Program} {w:World} {A:Around} {E:Value->Shared->Prop} {s:Shared} {t sl:Addr} {items:Array Value} {vl vu:Value} {lo hi:Option Int} {Q:Value->Shared->Prop} (ht:IsTup s.heap t items) (hs:s.heap.IsSliceOf sl vl vu .none) (pl:IsPart vl lo) (pu:IsPart vu hi)
  (h0:HT.hV items.size 0 lo=0) (h1:HT.hV items.size items.size hi=items.size) (h:Q (.ref t) s):wpAny (model prog w) A (getItem (.ref t) (.ref sl)) Q E s:=by
 have hT:s.TypeIs (.ref sl) "slice" := by obtain ⟨o,a,b,_⟩:=hs; exact ⟨o,a,b⟩
 unfold getItem
 try with_reducible refine wpAny_holding ?_
 first | refine wpAny_bind (wpAny_pure ?_) | skip
 apply wpAny_bind
 refine wpAny_sequenceKey ht.typeIs (by decide) (wpAny_bind (wpAny_callSpecial?_slot ht.typeIs PyProof.Rows.slot_tuple_getitem (wpAny_call_entry PyProof.Rows.slot_tuple_getitem ht.typeIs entry_tuple_getitem ?_ (args_tuple_getitem _ _))))
 refine wpAny_bind (m:=Builtin.Tuple.tupleItemsOf _) (tupleItemsOf_ ht (wpAny_bind (wpAny_typeOf hT ?_)))
 rw [if_pos (by decide)]
 refine wpAny_bind (HT.mJ (n:=items.size) hs pl pu ?_)
 rw [h0,h1]
 show wpAny _ _ (if ((((0:Nat):Int) == 0)&&((1:Int) == 1)&&((items.size - 0) == items.size))=true then _ else _) _ _ s
 rw [if_pos (by simp)]
 refine wpAny_bind (m:=Builtin.Tuple.tupleIsExact _) (wpAny_bind (wpAny_typeOf ht.typeIs (wpAny_pure ?_)))
 show wpAny _ _ (if true=true then _ else _) _ _ s
 rw [if_pos rfl]
 exact wpAny_bind (wpAny_rule (wpAny_pure ⟨_,rfl,wpAny_pure h⟩))
noncomputable def aJJ (K:PySem.W.Frag):V->Option Int->Option Int->Hp->VK->Prop:=fun x lo hi H Q=>∃ a xs,x=.ref a/\iP K H a xs/\(HT.hV xs.length 0 lo=0/\HT.hV xs.length xs.length hi=xs.length)/\Q (.ref a) H
theorem XY:YY X (aJJ X.K):=by
 intro pins s σ H x v vl vu lo hi sl Q I rx hs pl pu h
 obtain ⟨a,xs,rfl,hx,hw,q⟩:=h
 cases rx
 obtain ⟨its,r,ht,hz⟩:=I.tuple hx
 have hlen:its.toArray.size=xs.length:=by rw [List.size_toArray]; exact r.length.symm
 exact ⟨"tuple",_,PyProof.Rows.slot_tuple_getitem.lookup,ht.typeIs,T6 ht hs pl pu (by rw [hlen]; exact hw.1) (by rw [hlen]; exact hw.2) ⟨.ref a,H,I,rfl,q⟩⟩
noncomputable def wSl (te:WE) (tl th:WO):WE:=fun ρ Q=>te ρ fun d=>tl ρ fun lo=>th ρ fun hi=>match d with
 | .lst ds=>Q (.lst (cutD ds lo hi))
 | .tup ds=>Q (.tup (cutD ds lo hi))
 | _=>False
theorem sl3 {e:Expr} {lo hi:Option Expr} {p2 pos:Pos} {te:WE} {tl th:WO} (he:dO X e te) (hl:PO3 X lo tl) (hh:PO3 X hi th):dO X (.Subscript e (.Slice lo hi none p2) pos) (wSl te tl th) :=
 imp (SC (WZ.or (aA9.or XY)) he hl hh) fun σ H Q aJL=>by
  obtain ⟨S,ρ,Q3,fc,sl,ht,k⟩:=aJL
  refine ⟨S,ρ,_,fc,sl,ht,fun v H1 d s1 d1 q1=>?_⟩
  refine ⟨S,ρ,_,bZ fc s1,Sl.fits (.same s1) sl,q1,fun o H2 s2 q2=>?_⟩
  refine ⟨S,ρ,_,bZ fc (s1.trans s2),Sl.fits (.same (s1.trans s2)) sl,q2,fun o2 H3 s3 q3=>?_⟩
  have d3:=Dn.fits (.same (s2.trans s3)) _ _ d1
  have sa:=(s1.trans s2).trans s3
  cases d with
  | lst ds =>
   simp only [Dn] at d3
   obtain ⟨a,xs,rfl,ha,sa',da⟩:=d3
   refine .inl ⟨a,xs,rfl,gB.of ha,fun p hp=>k _ _ _ (sa.trans (aY hp)) ?_ q3⟩
   simp only [Dn]
   exact ⟨p,_,rfl,bJ,bZ fc sa p hp,bA.fits (.same (aY hp)) _ _ da.cut⟩
  | tup ds =>
   simp only [Dn] at d3
   obtain ⟨a,xs,rfl,ha,da⟩:=d3
   have hl:=da.len
   by_cases hw:HT.hV xs.length 0 o=0/\HT.hV xs.length xs.length o2=xs.length
   ·refine .inr (.inr ⟨a,xs,rfl,(iP.of ha),hw,k _ _ _ sa ?_ q3⟩)
    have e:cutD ds o o2=ds:=by
     unfold cutD
     rw [hl,hw.1,hw.2,List.drop_zero,Nat.sub_zero,List.take_of_length_le (Nat.le_of_eq hl)]
    rw [e]
    simp only [Dn]
    exact ⟨a,xs,rfl,ha,da⟩
   ·refine .inr (.inl ⟨a,xs,rfl,(iP.of ha),hw,fun p hp=>k _ _ _ (sa.trans (aY hp)) ?_ q3⟩)
    simp only [Dn]
    exact ⟨p,_,rfl,bJ,bA.fits (.same (aY hp)) _ _ da.cut⟩
  | _=>exact q3.elim
end
section
variable {X:Cx} {tg:Expr}
end
end L3
end
section
namespace L4
open PySem PySem.Spec PyProof.Rows L2 L3
noncomputable def wE (f:EF):WE:=fun ρ Q=>∃ d,f ρ=some d/\Q d
noncomputable def wT (f:TF):WT:=fun ρ Q=>∃ d,f ρ=some d/\Q d
noncomputable def wA (f:AF):WA:=fun ρ Q=>∃ d,f ρ=some d/\Q d
noncomputable def wI (f:AF):WI:=fun ρ Q=>∃ d,f ρ=some d/\Q d
noncomputable def wO (f:OF):WO:=fun ρ Q=>∃ d,f ρ=some d/\Q d
noncomputable def wX (f:XF):WX:=fun ρ Q=>∃ p,f ρ=some p/\Q p.1 p.2
noncomputable def wS (f:SF):WS:=fun E ρ=>match f ρ with
 | .nx ρ'=>E.nx ρ'
 | .rt d=>E.rt d
 | .ex c=>E.ex c
 | .no=>False
noncomputable def wG (g:P4):WG:=fun d ρ Q=>∃ ρ',g d ρ=some ρ'/\Q ρ'
noncomputable def wGE (g:IN):GE:=fun d ρ Q=>∃ ρ',g d ρ=some ρ'/\Q ρ'
noncomputable abbrev dJ (X:Cx) (e:Expr) (f:EF):Prop:=dO X e (wE f)
noncomputable abbrev nD (X:Cx) (e:Expr) (f:EF):Prop:=JX X e (wE f)
noncomputable abbrev AS (X:Cx) (e:Expr) (f:TF):Prop:=yU X e (wT f)
noncomputable abbrev U2 (X:Cx) (e:Expr) (f:TF):Prop:=PZ X e (wT f)
noncomputable abbrev FG (X:Cx) (es:List Expr) (f:AF):Prop:=yV X es (wA f)
noncomputable abbrev Y9 (X:Cx) (tg e:Expr) (f:AF):Prop:=TD X tg e (wI f)
noncomputable abbrev PO4 (X:Cx) (e:Option Expr) (f:OF):Prop:=PO3 X e (wO f)
noncomputable abbrev U3 (X:Cx) (e:Expr) (f:XF):Prop:=MV X e (wX f)
noncomputable abbrev y7 (X:Cx) (st:Stmt) (f:SF):Prop:=G6 X st (wS f)
noncomputable abbrev ET (X:Cx) (st:List Stmt) (f:SF):Prop:=u6 X st (wS f)
section
variable {X:Cx}
theorem cE {e:Expr} {t t':WE} (h:dO X e t) (c:∀ ρ Q,t' ρ Q->t ρ Q):dO X e t':=imp h fun _ _ _ aJN=>by obtain ⟨S,ρ,Q3,fc,sl,ht,k⟩:=aJN; exact ⟨S,ρ,Q3,fc,sl,c ρ Q3 ht,k⟩
theorem cF {e:Expr} {t t':WE} (h:JX X e t) (c:∀ ρ Q,t' ρ Q->t ρ Q):JX X e t':=imp h fun _ _ _ aJO=>by obtain ⟨S,ρ,Q3,fc,sl,ht,k⟩:=aJO; exact ⟨S,ρ,Q3,fc,sl,c ρ Q3 ht,k⟩
theorem cT {e:Expr} {t t':WT} (h:yU X e t) (c:∀ ρ Q,t' ρ Q->t ρ Q):yU X e t':=OD h fun _ _ _ aJP=>by obtain ⟨S,ρ,Q3,fc,sl,ht,k⟩:=aJP; exact ⟨S,ρ,Q3,fc,sl,c ρ Q3 ht,k⟩
theorem cW {e:Expr} {t t':WT} (h:PZ X e t) (c:∀ ρ Q,t' ρ Q->t ρ Q):PZ X e t':=aAm h fun _ _ _ aJQ=>by obtain ⟨S,ρ,Q3,fc,sl,ht,k⟩:=aJQ; exact ⟨S,ρ,Q3,fc,sl,c ρ Q3 ht,k⟩
theorem cA {e:List Expr} {t t':WA} (h:yV X e t) (c:∀ ρ Q,t' ρ Q->t ρ Q):yV X e t':=SY h fun _ _ _ aJR=>by obtain ⟨S,ρ,Q3,fc,sl,ht,k⟩:=aJR; exact ⟨S,ρ,Q3,fc,sl,c ρ Q3 ht,k⟩
theorem cI {tg e:Expr} {t t':WI} (h:TD X tg e t) (c:∀ ρ Q,t' ρ Q->t ρ Q):TD X tg e t':=OE h fun _ _ _ aJS=>by obtain ⟨S,ρ,Q3,fc,sl,ht,k⟩:=aJS; exact ⟨S,ρ,Q3,fc,sl,c ρ Q3 ht,k⟩
theorem cX {e:Expr} {t t':WX} (h:MV X e t) (c:∀ ρ Q,t' ρ Q->t ρ Q):MV X e t':=imp h fun _ _ _ aJT=>by obtain ⟨H₀,S,w,ρ,G,Q3,hl,st,ht,k⟩:=aJT; exact ⟨H₀,S,w,ρ,G,Q3,hl,st,c ρ Q3 ht,k⟩
theorem cS {e:Stmt} {t t':WS} (h:G6 X e t) (c:∀ E ρ,t' E ρ->t E ρ):G6 X e t':=nJ h fun _ _ _ aJU=>by obtain ⟨H₀,S,w,ρ,G,E,hl,st,ht,ok⟩:=aJU; exact ⟨H₀,S,w,ρ,G,E,hl,st,c E ρ ht,ok⟩
theorem cSs {e:List Stmt} {t t':WS} (h:u6 X e t) (c:∀ E ρ,t' E ρ->t E ρ):u6 X e t':=G7 h fun _ _ _ aJV=>by obtain ⟨H₀,S,w,ρ,G,E,hl,st,ht,ok⟩:=aJV; exact ⟨H₀,S,w,ρ,G,E,hl,st,c E ρ ht,ok⟩
theorem U2.pt {e:Expr} {f:TF} (h:U2 X e f):AS X e f:=PZ.pt h
theorem nD.pe {e:Expr} {f:EF} (h:nD X e f):dJ X e f:=JX.pe h
theorem bnd {α β:Type} {o:Option α} {f:α->Option β} {b:β} (h:o.bind f=some b):∃ a,o=some a/\f a=some b:=by
 cases o with
 | none=>cases h
 | some a=>exact ⟨a,rfl,h⟩
theorem y9 {α β:Type} {o:Option α} {f:α->β} {b:β} (h:o.map f=some b):∃ a,o=some a/\f a=b:=by
 cases o with
 | none=>cases h
 | some a=>exact ⟨a,rfl,Option.some.inj h⟩
theorem x4 (i:Nat) {x:Str} {pos:Pos} (hN:X.N[i]? = some x:=by rfl) (hv:GU X.env.scope x:=by first | exact Or.inl rfl | exact Or.inr (Or.inl rfl) | exact Or.inr (Or.inr rfl)) (hd:(x == ("__debug__" : Str))=false:=by decide)
  (hcd:(x == ("__classdict__" : Str))=false:=by decide):dJ X (.Name x pos) (aB i):=cE (x3 i hN hv hd hcd) fun ρ Q aJW=>by
 obtain ⟨d,e,q⟩:=aJW
 unfold aB at e
 unfold W4
 cases h:ρ[i]? with
 | none=>rw [h] at e; cases e
 | some o =>
  rw [h] at e
  cases o with
  | none=>cases e
  | some d'=>cases e; exact q
theorem i4 {i:Int} {j pos}:dJ X (.Constant (.int i) j pos) (eC (.int i)):=cE i3 fun _ _ aJX=>by obtain ⟨_,e,q⟩:=aJX; cases e; exact q
theorem b4 {b:Bool} {j pos}:dJ X (.Constant (.bool b) j pos) (eC (.bl b)):=cE b3 fun _ _ aJY=>by obtain ⟨_,e,q⟩:=aJY; cases e; exact q
theorem n4 {j pos}:dJ X (.Constant .none j pos) (eC .non):=cE n3 fun _ _ aJZ=>by obtain ⟨_,e,q⟩:=aJZ; cases e; exact q
theorem c4 {x:Str} {i:Int} {t:Tok} {pos:Pos} (hm:X.mg x=some (.int i t)) (hg:Gl X x:=by rfl) (hd:(x == ("__debug__" : Str))=false:=by decide):dJ X (.Name x pos) (eC (.int i)):=cE (g3 hg hm hd) fun _ _ aJ0=>by obtain ⟨_,e,q⟩:=aJ0; cases e; exact q
noncomputable def Tells (f:F2) (g:D->D->Option D):Prop:=∀ (x y d:D) (Q:D->Prop),g x y=some d->Q d->f x y Q
theorem lD {f:F2} {g:D->D->Option D} (h:Tells f g) {fa fb:EF} (ρ:cD) (Q:D->Prop) (w:wE (aE g fa fb) ρ Q):iQ f (wE fa) (wE fb) ρ Q:=by
 obtain ⟨d,e,q⟩:=w
 obtain ⟨x,ex,e⟩:=bnd e
 obtain ⟨y,ey,e⟩:=bnd e
 exact ⟨x,ex,y,ey,h x y d Q e q⟩
theorem iS {g:Int->Int->D}:Tells (yW g) (II g):=fun x y d Q e q=>by
 cases x<;>first | (cases e; done) | skip
 all_goals (cases y<;>first | (cases e; done) | skip)
 cases e; exact q
theorem nB {C:Int->Int->Prop} {c:Int->Int->Bool} {g:Int->Int->D} (h:∀ i j,c i j=true->C i j):Tells (EL C g) (p5 c g):=fun x y d Q e q=>by
 cases x<;>first | (cases e; done) | skip
 all_goals (cases y<;>first | (cases e; done) | skip)
 rename_i i j
 have e:(if c i j=true then some (g i j) else none)=some d:=e
 by_cases hc:c i j=true
 ·rw [if_pos hc] at e; cases e; exact ⟨h i j hc,q⟩
 ·rw [if_neg hc] at e; cases e
theorem szl {n:Nat} {α:Type} {x d:α} {Q:α->Prop} (e:(if n<=tD then some x else none)=some d) (q:Q d):n<=sizeLine/\Q x:=by
 by_cases h:n<=tD
 ·rw [if_pos h] at e; cases e; exact ⟨by rw [sizeLine_eq]; exact h,q⟩
 ·rw [if_neg h] at e; cases e
theorem OO:Tells aAi bO:=fun x y d Q e q=>by
 cases x<;>first | (cases e; done) | skip
 all_goals (cases y<;>first | (cases e; done) | skip)
 ·cases e; exact q
 ·exact szl (x:=D.str _) e q
 ·exact szl (x:=D.tup _) e q
 ·exact szl (x:=D.lst _) e q
theorem OP:Tells aDA M8:=fun x y d Q e q=>by
 cases x<;>first | (cases e; done) | skip
 all_goals (cases y<;>first | (cases e; done) | skip)
 exact szl (x:=D.lst _) e q
theorem aBS {i j:Int} (h:wJ i j=true):IntMulOk i j:=by
 unfold wJ at h
 simp only [Bool.or_eq_true,decide_eq_true_eq] at h
 rcases h with (h | h) | h
 ·exact WJ.ok (.inl ⟨by omega,by omega⟩)
 ·exact WJ.ok (.inr ⟨by omega,by omega⟩)
 ·refine XW (m:=i.natAbs.log2+1) (n:=j.natAbs.log2+1) ?_ ?_ (by omega)
  ·exact Nat.lt_log2_self
  ·exact Nat.lt_log2_self
section
variable {a b:Expr} {pos:Pos} {fa fb:EF}
theorem eM (ha:dJ X a fa) (hb:dJ X b fb):dJ X (.BinOp a .Add b pos) (aE bO fa fb):=cE (aHN ha hb) (lD OO)
theorem pU (ha:dJ X a fa) (hb:dJ X b fb):dJ X (.BinOp a .Sub b pos) (aE dZ fa fb):=cE (aHJ ha hb) (lD iS)
theorem nL (ha:dJ X a fa) (hb:dJ X b fb):dJ X (.BinOp a .Mult b pos) (aE mulM fa fb):=cE (aDe ha hb) (lD (nB fun _ _ h=>aBS h))
theorem sN (ha:dJ X a fa) (hb:dJ X b fb):dJ X (.BinOp a .Mod b pos) (aE iJ fa fb):=cE (aHK ha hb) (lD (nB fun _ _ h=>by simpa using h))
theorem OQ (ha:dJ X a fa) (hb:dJ X b fb):dJ X (.BinOp a .FloorDiv b pos) (aE tF fa fb):=cE (aHL ha hb) (lD (nB fun i j h=>by
 simp only [Bool.and_eq_true,decide_eq_true_eq] at h
 exact ⟨h.1,by omega⟩))
theorem XZ (ha:dJ X a fa) (hb:dJ X b fb):dJ X (.BinOp a .Pow b pos) (aE uX fa fb):=cE (aHM ha hb) (lD (nB fun i j h=>by
 simp only [Bool.and_eq_true,decide_eq_true_eq] at h
 exact ⟨h.1.1,by omega,h.2⟩))
theorem aDi (ha:dJ X a fa) (hb:dJ X b fb):nD X (.BinOp a .Add b pos) (aE M8 fa fb):=cF (aDB ha hb) (lD OP)
theorem tells_eq:Tells W8 tG:=fun x y d Q e q=>by
 cases x<;>first | (cases e; done) | skip
 all_goals (cases y<;>first | (cases e; done) | skip)
 all_goals (cases e; exact ⟨rfl,q⟩)
theorem T7:Tells aAk U0:=fun x y d Q e q=>by
 cases x<;>first | (cases e; done) | skip
 all_goals (cases y<;>first | (cases e; done) | skip)
 all_goals (cases e; exact ⟨rfl,q⟩)
theorem ints_of:∀ {ds:List D} {ns:List Int},intsOf ds=some ns->ds=ns.map D.int
 | [],ns,h=>by cases h; rfl
 | d::ds,ns,h=>by
  cases d<;>first | cases h; done | skip
  obtain ⟨m,e,rfl⟩:=y9 h
  rw [ints_of e]; rfl
theorem HE {neg:Bool}:Tells (inF neg) (tH neg):=fun x y d Q e q=>by
 cases x<;>first | (cases e; done) | skip
 all_goals (cases y<;>first | (cases e; done) | skip)
 all_goals
  obtain ⟨ns,e1,rfl⟩:=y9 e
  have:=ints_of e1
  subst this
  exact ⟨B1 ns,by rw [B2]; exact q⟩
theorem HF:Tells W9 U8:=fun x y d Q e q=>by
 unfold U8 at e
 split at e
 ·rename_i h
  cases e
  refine ⟨(by cases y<;>first | rfl | cases h),?_⟩
  have:isD x=wK x:=by cases x<;>rfl
  rw [this]; exact q
 ·cases e
theorem gt4 (ha:dJ X a fa) (hb:dJ X b fb):dJ X (.Compare a [.Gt] [b] pos) (aE AG fa fb):=cE (gt3 ha hb) (lD iS)
theorem eq4 (ha:dJ X a fa) (hb:dJ X b fb):dJ X (.Compare a [.Eq] [b] pos) (aE tG fa fb):=cE (aH0 ha hb) (lD tells_eq)
theorem in4 (ha:dJ X a fa) (hb:dJ X b fb) (hm:behindInMarks .In b=false:=by with_unfolding_all rfl):dJ X (.Compare a [.In] [b] pos) (aE (tH false) fa fb):=cE (in3 ha hb hm) (lD HE)
theorem is4 (ha:dJ X a fa) (hb:dJ X b fb):dJ X (.Compare a [.Is] [b] pos) (aE U8 fa fb):=cE (aH4 ha hb) (lD HF)
theorem zA {f:F2} {g:D->D->Option D} (h:Tells f g) (hb:∀ x y d,g x y=some d -> ∃ b,d=.bl b) {fa fb:EF} (ρ:cD) (Q:Bool->Prop) (w:wT (tV (aE g fa fb)) ρ Q):nZ (iQ f (wE fa) (wE fb)) ρ Q:=by
 obtain ⟨b,e,q⟩:=w
 obtain ⟨d,e1,e2⟩:=bnd e
 obtain ⟨x,ex,e1⟩:=bnd e1
 obtain ⟨y,ey,e1⟩:=bnd e1
 obtain ⟨c,rfl⟩:=hb x y d e1
 cases e2
 exact ⟨x,ex,y,ey,h x y _ _ e1 q⟩
theorem zB {g:Int->Int->Bool} (x y d:D) (e:II (fun i j=>.bl (g i j)) x y=some d):∃ b,d=.bl b:=by
 cases x<;>first | (cases e; done) | skip
 all_goals (cases y<;>first | (cases e; done) | skip)
 cases e; exact ⟨_,rfl⟩
theorem aDj (x y d:D) (e:tG x y=some d):∃ b,d=.bl b:=by obtain ⟨b,_,rfl⟩:=y9 e; exact ⟨_,rfl⟩
theorem aDk (x y d:D) (e:U0 x y=some d):∃ b,d=.bl b:=by obtain ⟨b,_,rfl⟩:=y9 e; exact ⟨_,rfl⟩
theorem aDl {neg:Bool} (x y d:D) (e:tH neg x y=some d):∃ b,d=.bl b:=by
 cases x<;>first | (cases e; done) | skip
 all_goals (cases y<;>first | (cases e; done) | skip)
 all_goals (obtain ⟨b,_,rfl⟩:=y9 e; exact ⟨_,rfl⟩)
theorem aDm (x y d:D) (e:U8 x y=some d):∃ b,d=.bl b:=by
 unfold U8 at e
 split at e
 ·cases e; exact ⟨_,rfl⟩
 ·cases e
theorem aJ2 (ha:dJ X a fa) (hb:dJ X b fb):AS X (.Compare a [.Lt] [b] pos) (tV (aE U7 fa fb)):=cT (aH1 ha hb) (zA iS zB)
theorem aBT (ha:dJ X a fa) (hb:dJ X b fb):AS X (.Compare a [.Gt] [b] pos) (tV (aE AG fa fb)):=cT (aH2 ha hb) (zA iS zB)
theorem aDn (ha:dJ X a fa) (hb:dJ X b fb):AS X (.Compare a [.GtE] [b] pos) (tV (aE geM fa fb)):=cT (aH3 ha hb) (zA iS zB)
theorem T8 (ha:dJ X a fa) (hb:dJ X b fb):AS X (.Compare a [.Eq] [b] pos) (tV (aE tG fa fb)):=cT (aDE ha hb) (zA tells_eq aDj)
theorem aJ3 (ha:dJ X a fa) (hb:dJ X b fb):AS X (.Compare a [.NotEq] [b] pos) (tV (aE U0 fa fb)):=cT (aDF ha hb) (zA T7 aDk)
theorem T9 (ha:dJ X a fa) (hb:dJ X b fb) (hm:behindInMarks .NotIn b=false:=by with_unfolding_all rfl):AS X (.Compare a [.NotIn] [b] pos) (tV (aE (tH true) fa fb)):=cT (aDG ha hb hm) (zA HE aDl)
theorem aJ4 (ha:dJ X a fa) (hb:dJ X b fb):AS X (.Compare a [.Is] [b] pos) (tV (aE U8 fa fb)):=cT (aDH ha hb) (zA HF aDm)
end
noncomputable def O4 (K:PySem.W.Frag) (r:R2) (g:D->D->Option D):Prop:=∃ f,O3 K r f/\Tells f g /\ ∀ x y d,g x y=some d -> ∃ b,d=.bl b
theorem aDo {K:PySem.W.Frag}:O4 K (N0 fun i j=>.bl (decide (i<j))) U7:=⟨_,t6,iS,zB⟩
theorem aDp {K:PySem.W.Frag}:O4 K (N0 fun i j=>.bl (decide (i<=j))) leM:=⟨_,t6,iS,zB⟩
theorem X0 {f g:F2} {p q:D->D->Option D} (hf:Tells f p) (hg:Tells g q) {fa fb fc:EF} (ρ:cD) (Q:D->Prop) (w:wE (mS p q fa fb fc) ρ Q):JY f g (wE fa) (wE fb) (wE fc) ρ Q:=by
 obtain ⟨d,e,k⟩:=w
 obtain ⟨x,ex,e⟩:=bnd e
 obtain ⟨y,ey,e⟩:=bnd e
 obtain ⟨z,ez,e⟩:=bnd e
 obtain ⟨b,eb,e5⟩:=bnd e
 refine ⟨x,ex,y,ey,hf x y z _ ez ?_⟩
 clear e
 cases z<;>first | cases eb; done | skip
 cases eb
 cases b with
 | true =>
  rw [if_pos rfl] at e5
  obtain ⟨u,eu,e⟩:=bnd e5
  exact ⟨u,eu,hg y u d Q e k⟩
 | false =>
  rw [if_neg Bool.false_ne_true] at e5
  cases e5
  exact k
theorem X1 {a b c:Expr} {op op':CmpOp} {pos:Pos} {r r':R2} {p q:D->D->Option D} {fa fb fc:EF} (ho:lO X (compareOp op) r) (ho':lO X (compareOp op') r') (h1:O4 X.K r p) (h2:O4 X.K r' q) (ha:dJ X a fa) (hb:dJ X b fb) (hc:dJ X c fc)
  (hm:lastMarks [op,op'] [b,c]=false:=by with_unfolding_all rfl):AS X (.Compare a [op,op'] [b,c] pos) (tV (mS p q fa fb fc)):=by
 obtain ⟨f,o1,t1,_⟩:=h1
 obtain ⟨g,o2,t2,b2⟩:=h2
 refine cT (XA ho ho' o1 o2 ha hb hc hm) fun ρ Q w=>?_
 obtain ⟨b,e,q⟩:=w
 obtain ⟨d,e1,e2⟩:=bnd e
 refine X0 t1 t2 ρ _ ⟨d,e1,?_⟩
 have hd:∃ c,d=.bl c:=by
  obtain ⟨x,ex,e1⟩:=bnd e1
  obtain ⟨y,ey,e1⟩:=bnd e1
  obtain ⟨z,ez,e1⟩:=bnd e1
  obtain ⟨k,ek,e1⟩:=bnd e1
  cases k with
  | true =>
   rw [if_pos rfl] at e1
   obtain ⟨u,eu,e1⟩:=bnd e1
   exact b2 _ _ _ e1
  | false =>
   rw [if_neg Bool.false_ne_true] at e1
   cases e1
   exact ⟨_,rfl⟩
 obtain ⟨c,rfl⟩:=hd
 cases e2
 exact q
section
variable {a b c:Expr} {rest:List Expr} {pos:Pos} {fa fb:EF} {ta tb tc:TF}
theorem HG (ha:AS X a ta):AS X (.UnaryOp .Not a pos) (jL ta):=cT (aDK ha) fun ρ Q aJ5=>by
 obtain ⟨b,e,q⟩:=aJ5
 obtain ⟨c,ec,rfl⟩:=y9 e
 exact ⟨c,ec,q⟩
theorem aDq (ha:AS X a ta):U2 X (.BoolOp .And [a] pos) ta:=aH7 ha
theorem aJ6 (ha:AS X a ta):U2 X (.BoolOp .Or [a] pos) ta:=or1 ha
theorem aDr (ha:AS X a ta) (hb:U2 X (.BoolOp .And (b::rest) pos) tb):U2 X (.BoolOp .And (a::b::rest) pos) (uW ta tb):=cW (aDL ha hb) fun ρ Q aJ7=>by
 obtain ⟨d,e,q⟩:=aJ7
 obtain ⟨c,ec,e⟩:=bnd e
 refine ⟨c,ec,?_⟩
 cases c with
 | true=>rw [if_pos rfl] at e ⊢; exact ⟨d,e,q⟩
 | false=>rw [if_neg Bool.false_ne_true] at e ⊢; cases e; exact q
theorem aJ8 (ha:AS X a ta) (hb:U2 X (.BoolOp .Or (b::rest) pos) tb):U2 X (.BoolOp .Or (a::b::rest) pos) (FE ta tb):=cW (aH9 ha hb) fun ρ Q aJ9=>by
 obtain ⟨d,e,q⟩:=aJ9
 obtain ⟨c,ec,e⟩:=bnd e
 refine ⟨c,ec,?_⟩
 cases c with
 | true=>rw [if_pos rfl] at e ⊢; cases e; exact q
 | false=>rw [if_neg Bool.false_ne_true] at e ⊢; exact ⟨d,e,q⟩
theorem X2 {op} (ha:dJ X a fa):dJ X (.BoolOp op [a] pos) fa:=aHd ha
theorem UA (ha:dJ X a fa) (hb:dJ X (.BoolOp .And (b::rest) pos) fb):dJ X (.BoolOp .And (a::b::rest) pos) (mR fa fb):=cE (aHe ha hb) fun ρ Q aJa=>by
 obtain ⟨d,e,q⟩:=aJa
 obtain ⟨x,ex,e1⟩:=bnd e
 obtain ⟨c,ec,e⟩:=bnd e1
 clear e1
 refine ⟨x,ex,?_⟩
 cases x<;>first | cases ec; done | skip
 cases ec
 cases c with
 | true=>rw [if_pos rfl] at e; exact ⟨d,e,q⟩
 | false=>rw [if_neg Bool.false_ne_true] at e; cases e; exact q
theorem aJb (ha:dJ X a fa):dJ X (.UnaryOp .Not a pos) (AH fa):=cE (aHg ha) fun ρ Q aJc=>by
 obtain ⟨d,e,q⟩:=aJc
 obtain ⟨x,ex,e⟩:=bnd e
 obtain ⟨c,ec,rfl⟩:=y9 e
 refine ⟨x,ex,?_⟩
 cases x<;>first | cases ec; done | skip
 cases ec
 exact q
theorem if4 (hc:AS X c tc) (ha:dJ X a fa) (hb:dJ X b fb):dJ X (.IfExp c a b pos) (U5 tc fa fb):=cE (if3 hc ha hb) fun ρ Q aJd=>by
 obtain ⟨d,e,q⟩:=aJd
 obtain ⟨c,ec,e⟩:=bnd e
 refine ⟨c,ec,?_⟩
 cases c with
 | true=>rw [if_pos rfl] at e ⊢; exact ⟨d,e,q⟩
 | false=>rw [if_neg Bool.false_ne_true] at e ⊢; exact ⟨d,e,q⟩
theorem aDs (ha:dJ X a fa):dJ X (.UnaryOp .USub a pos) (CZ fa):=cE (aHk ha) fun ρ Q aJe=>by
 obtain ⟨d,e,q⟩:=aJe
 obtain ⟨x,ex,e⟩:=bnd e
 refine ⟨x,ex,?_⟩
 cases x<;>first | cases e; done | skip
 cases e
 exact q
theorem u7 {e:Expr} {f:EF} (h:dJ X e f) (he:∀ whole,isTrue e X.env whole=(do let v <- whole; standAt e.pos; holding [v] (truthy v)):=by intro _; rfl):AS X e (tV f) :=
 OD (R9 h he) fun σ H Q aJf=>by
  obtain ⟨S,ρ,Q3,fc,sl,⟨b,hb,q3⟩,k⟩:=aJf
  obtain ⟨d0,ed,et⟩:=bnd hb
  refine ⟨S,ρ,fun d=>d=d0,fc,sl,⟨d0,ed,rfl⟩,fun v H1 d s1 d1 q1=>?_⟩
  subst q1
  cases d with
  | bl c=>cases et; simp only [Dn] at d1; subst d1; exact ⟨_,rfl,k _ H1 s1 q3⟩
  | lst ds =>
   cases et
   simp only [Dn] at d1
   obtain ⟨a,xs,rfl,ha,sa,da⟩:=d1
   exact ⟨_,.inl ⟨xs,gB.of ha,by rw [<- da.empty]⟩,k _ H1 s1 q3⟩
  | tup ds =>
   cases et
   simp only [Dn] at d1
   obtain ⟨a,xs,rfl,ha,da⟩:=d1
   exact ⟨_,.inr (.inl ⟨xs,(iP.of ha),by rw [<- da.empty]⟩),k _ H1 s1 q3⟩
  | _=>cases et
end
end
section
variable {X:Cx}
theorem aL:FG X [] aC:=cA aHQ fun _ _ aJg=>by obtain ⟨_,e,q⟩:=aJg; cases e; exact q
theorem aF {e:Expr} {es:List Expr} {fe:EF} {t:AF} (ha:dJ X e fe) (hr:FG X es t) (hs:starEach (e::es) X.env=(false,eval e X.env)::starEach es X.env:=by rfl):FG X (e::es) (aA fe t):=cA (aDD ha hr hs) fun ρ Q aJh=>by
 obtain ⟨ds,e,q⟩:=aJh
 obtain ⟨d,ed,e⟩:=bnd e
 obtain ⟨r,er,e⟩:=bnd e
 cases e
 exact ⟨d,ed,r,er,q⟩
theorem KA {es:List Expr} {t:AF} {x1} {pos:Pos} (h:FG X es t):dJ X (.Tuple es x1 pos) (lJ t):=cE (aHV h) fun ρ Q aJi=>by
 obtain ⟨d,e,q⟩:=aJi
 obtain ⟨ds,ed,e⟩:=bnd e
 exact ⟨ds,ed,szl (x:=D.tup ds) e q⟩
theorem qY {es:List Expr} {t:AF} {pos:Pos} (h:FG X es t):nD X (.List es pos) (eW t):=cF (aHX h) fun ρ Q aJj=>by
 obtain ⟨d,e,q⟩:=aJj
 obtain ⟨ds,ed,e⟩:=bnd e
 exact ⟨ds,ed,szl (x:=D.lst ds) e q⟩
theorem UB:Tells ixF fA:=fun x y d Q e q=>by
 cases x<;>first | (cases e; done) | skip
 all_goals (cases y<;>first | (cases e; done) | skip)
 ·have e:u4 _ _=some d:=e
  show (match u4 _ _ with | some d=>Q d | none=>False)
  rw [e]; exact q
 ·have e:u4 _ _=some d:=e
  show (match u4 _ _ with | some d=>Q d | none=>False)
  rw [e]; exact q
 ·obtain ⟨n,e1,rfl⟩:=y9 e
  have e1:u4 _ _=some n:=e1
  show (match u4 _ _ with | some n=>Q (.int n) | none=>False)
  rw [e1]; exact q
theorem tE {a b:Expr} {pos:Pos} {fa fb:EF} (ha:dJ X a fa) (hb:dJ X b fb) (hs:ED b:=by intro _ _; rfl):dJ X (.Subscript a b pos) (aE fA fa fb):=cE (ix3 ha hb hs) (lD UB)
theorem OR:Tells aBK wM:=fun x y d Q e q=>by
 cases x<;>first | cases e; done | skip
 rename_i ks ds
 obtain ⟨k,ek,e⟩:=bnd e
 have ek:HD y=some k:=by cases y<;>first | exact ek | cases ek
 have e:lC ks ds k=some d:=e
 show (match D.kR ks ds,HD y with
  | .kR ks ds,some k=>(match lC ks ds k with | some d=>Q d | none=>False)
  | _,_=>False)
 rw [ek]
 dsimp only
 rw [e]; exact q
theorem aDt {o i:Expr} {pos:Pos} {fo fi:EF} (hu:X.A.units+1<cLine) (ho:dJ X o fo) (hi:dJ X i fi) (hs:JV i:=by intro _ _; rfl):dJ X (.Subscript o i pos) (aE wM fo fi):=cE (aIo hu ho hi hs) (lD OR)
noncomputable def n9 (f:F1) (g:List D->Option D):Prop:=∀ (ds:List D) (d:D) (Q:D->Prop),g ds=some d->Q d->f ds Q
theorem HH {f:F1} {g:List D->Option D} (h:n9 f g) {t:AF} (ρ:cD) (Q:D->Prop) (w:wE (cB g t) ρ Q):S7 f (wA t) ρ Q:=by
 obtain ⟨d,e,q⟩:=w
 obtain ⟨ds,ed,e⟩:=bnd e
 exact ⟨ds,ed,h ds d Q e q⟩
theorem OS:n9 J0 bY:=fun ds d Q e q=>by
 cases ds with
 | nil=>cases e
 | cons a ds =>
  cases a<;>first | (cases e; done) | skip
  all_goals (cases ds<;>first | (cases e; exact q) | (cases e; done))
theorem HI:n9 J1 cP:=fun ds d Q e q=>by
 cases ds with
 | nil=>cases e
 | cons a ds =>
  cases a<;>first | (cases e; done) | skip
  all_goals (cases ds<;>first | (cases e; exact q) | (cases e; done))
theorem gW {p pos:Pos} {e:Expr} {t:AF} (hm:X.mg "len" = none) (ha:FG X [e] t) (hg:Gl X "len" := by rfl) (he:starEach [e] X.env=(false,eval e X.env)::starEach [] X.env:=by rfl):dJ X (.Call (.Name "len" p) [e] [] pos) (cB bY t):=cE (aHn hm ha hg he) (HH OS)
theorem iT {p pos:Pos} {e:Expr} {t:AF} (hm:X.mg "tuple" = none) (ha:FG X [e] t) (hg:Gl X "tuple" := by rfl) (he:starEach [e] X.env=(false,eval e X.env)::starEach [] X.env:=by rfl):dJ X (.Call (.Name "tuple" p) [e] [] pos) (cB cP t):=cE (aAo hm PyProof.Rows.boot_tuple ha hg he) (HH HI)
theorem B8:∀ ds:List D,L3.intsOf ds=L4.intsOf ds
 | []=>rfl
 | d::ds=>by
  cases d<;>first | rfl | skip
  show (L3.intsOf ds).map _=(L4.intsOf ds).map _
  rw [B8 ds]
theorem qZ (a:Int):∀ l:List Int,(insI a l).Perm (a::l)
 | []=>.refl _
 | b::l=>by
  unfold insI
  split
  ·exact .refl _
  ·exact ((qZ a l).cons b).trans (.swap a b l)
theorem oA:∀ l:List Int,(sortI l).Perm l
 | []=>.refl _
 | a::l=>(qZ a (sortI l)).trans ((oA l).cons a)
theorem sO (a:Int):∀ l:List Int,l.Pairwise (· <= ·)->(insI a l).Pairwise (· <= ·)
 | [],_=>by simp [insI]
 | b::l,h=>by
  unfold insI
  split
  ·rename_i hab
   refine List.pairwise_cons.mpr ⟨fun c hc=>?_,h⟩
   rcases List.mem_cons.mp hc with e | e
   ·subst e; exact hab
   ·exact Int.le_trans hab ((List.pairwise_cons.mp h).1 c e)
  ·rename_i hab
   refine List.pairwise_cons.mpr ⟨fun c hc=>?_,sO a l (List.pairwise_cons.mp h).2⟩
   rcases List.mem_cons.mp ((qZ a l).mem_iff.mp hc) with e | e
   ·subst e; omega
   ·exact (List.pairwise_cons.mp h).1 c e
theorem lU:∀ l:List Int,(sortI l).Pairwise (· <= ·)
 | []=>List.Pairwise.nil
 | a::l=>sO a _ (lU l)
theorem rA:∀ {l m:List Int},l.Perm m->l.Pairwise (· <= ·)->m.Pairwise (· <= ·)->l=m
 | [],m,p,_,_=>by rw [p.nil_eq]
 | a::l,[],p,_,_=>by have:=p.length_eq; simp at this
 | a::l,b::m,p,h1,h2=>by
  have e:a=b:=by
   have m1:=p.mem_iff.mp (List.mem_cons_self (a:=a) (l:=l))
   have m2:=p.mem_iff.mpr (List.mem_cons_self (a:=b) (l:=m))
   rcases List.mem_cons.mp m1 with e | e
   ·exact e
   ·rcases List.mem_cons.mp m2 with e2 | e2
    ·exact e2.symm
    ·have:=(List.pairwise_cons.mp h2).1 a e
     have:=(List.pairwise_cons.mp h1).1 b e2
     omega
  subst e
  rw [rA p.cons_inv (List.pairwise_cons.mp h1).2 (List.pairwise_cons.mp h2).2]
theorem EU:n9 TU iZ:=fun ds d Q e q=>by
 unfold iZ at e
 split at e
 ·rename_i a
  obtain ⟨ns,e1,e⟩:=bnd e
  by_cases hl:ns.length<64
  ·rw [if_pos hl] at e
   cases e
   show (match L3.intsOf a with | some ns=>ns.length<64 /\ ∀ ns':List Int,ns'.Perm ns->ns'.Pairwise (· <= ·)->Q (.lst (ns'.map D.int)) | none=>False)
   rw [B8,e1]
   refine ⟨hl,fun ns' p s=>?_⟩
   rw [rA (p.trans (oA ns).symm) s (lU ns)]
   exact q
  ·rw [if_neg hl] at e; cases e
 ·cases e
theorem X3 {p pos:Pos} {e:Expr} {t:AF} (hm:X.mg "sorted" = none) (ha:FG X [e] t) (hg:Gl X "sorted" := by rfl) (he:starEach [e] X.env=(false,eval e X.env)::starEach [] X.env:=by rfl):nD X (.Call (.Name "sorted" p) [e] [] pos) (cB iZ t):=cF (XR hm ha hg he) (HH EU)
theorem OT:n9 sumF C0:=fun ds d Q e q=>by
 unfold C0 at e
 split at e
 ·rename_i a
  obtain ⟨ns,e1,rfl⟩:=y9 e
  have:=ints_of e1
  subst this
  rw [ON]; exact q
 ·cases e
theorem aJk {p pos:Pos} {e:Expr} {t:AF} (hc:X.calm=true) (hm:X.mg "sum" = none) (ha:FG X [e] t) (hg:Gl X "sum" := by rfl) (he:starEach [e] X.env=(false,eval e X.env)::starEach [] X.env:=by rfl):dJ X (.Call (.Name "sum" p) [e] [] pos) (cB C0 t):=cE (aJF hc hm ha hg he) (HH OT)
theorem aBU (T:String) (d:D):IJ T d=isT T d:=by cases d<;>rfl
theorem HJ {T:String} {x:Str} {e:Expr} {f:EF} {p p2 pos:Pos} (hT:J4 T) (hm:X.mg "isinstance" = none) (hmT:X.mg x=none) (hv:bootBuiltins x=some (.type T)) (he:dJ X e f) (hg:Gl X "isinstance" := by rfl) (hgT:Gl X x:=by rfl) (hn:x ≠ "__name__" := by decide) (hdb:(x == ("__debug__" : Str))=false:=by decide)
  (hs:starEach [e,.Name x p2] X.env=(false,eval e X.env)::starEach [.Name x p2] X.env:=by rfl) (hs2:starEach [.Name x p2] X.env=(false,eval (.Name x p2) X.env)::starEach [] X.env:=by rfl) (hpl:(backTo pos (starEach [.Name x p2] X.env)).any (·.1)=false:=by rfl) :
  dJ X (.Call (.Name "isinstance" p) [e,.Name x p2] [] pos) (j5 T f):=cE (aIj hT hm hmT hv he hg hgT hn hdb hs hs2 hpl) fun ρ Q aJl=>by
 obtain ⟨d,e,q⟩:=aJl
 obtain ⟨x,ex,e⟩:=bnd e
 by_cases hx:IK x=true
 ·rw [if_pos hx] at e
  cases e
  exact ⟨x,ex,(by cases x<;>first | trivial | cases hx),by show Q (.bl (isT T x)); rw [<- aBU]; exact q⟩
 ·rw [if_neg hx] at e; cases e
noncomputable def dL (K:PySem.W.Frag) (R:gH):Sp:=sp3 K fun ds Q=>∃ d,R ds=.ok d/\Q d
theorem bN {k:Nat} {f:Addr} {fd:FuncData} {ps:List Str} {R:gH} {x:Str} {p pos:Pos} {e:Expr} {es:List Expr} {t:AF} (F:aQ X.prog X.w X.K X.mg X.base cQ k f fd ps (dL X.K R)) (hr:kU k X.A) (hm:X.mg x=some (.ref f)) (hk:PySem.W.keepIn X.K (.ref f)=true) (hb:Binds X.K fd ps [])
  (ha:FG X (e::es) t) (hg:Gl X x:=by rfl) (hdb:(x == ("__debug__" : Str))=false:=by decide) (he:starEach (e::es) X.env=(false,eval e X.env)::starEach es X.env:=by rfl) (hpl:(backTo pos (starEach es X.env)).any (·.1)=false:=by rfl) :
  dJ X (.Call (.Name x p) (e::es) [] pos) (aI R t):=cE (aDN F hr hm hk hb ha hg hdb he hpl) fun ρ Q aJm=>by
 obtain ⟨d,e,q⟩:=aJm
 obtain ⟨ds,ed,e⟩:=bnd e
 refine ⟨ds,ed,d,?_,q⟩
 cases h:R ds with
 | ok d'=>rw [h] at e; cases e; rfl
 | no=>rw [h] at e; cases e
 | ex c=>rw [h] at e; cases e
theorem KB {a:Expr} {t:AF} {p pos p2 pos2:Pos} (hc:X.calm=true) (hm:X.mg "list" = none) (hmr:X.mg "range" = none) (ha:FG X [a] t) (hg:Gl X "list" := by rfl) (hgr:Gl X "range" := by rfl) (hs:starEach [a] X.env=[(false,eval a X.env)]:=by rfl)
  (he:starEach [.Call (.Name "range" p2) [a] [] pos2] X.env=(false,eval (.Call (.Name "range" p2) [a] [] pos2) X.env)::starEach [] X.env:=by rfl) :
  nD X (.Call (.Name "list" p) [.Call (.Name "range" p2) [a] [] pos2] [] pos) (IL t):=cF (J5 hc hm hmr ha hg hgr hs he) fun ρ Q aJn=>by
 obtain ⟨d,e,q⟩:=aJn
 obtain ⟨ds,ed,e⟩:=bnd e
 refine ⟨ds,ed,?_⟩
 split at e
 ·rename_i j
  by_cases h:j.natAbs<=16777216
  ·rw [if_pos h] at e; cases e; exact ⟨⟨by omega,by omega⟩,q⟩
  ·rw [if_neg h] at e; cases e
 ·cases e
section
variable {tg:Expr}
theorem oB {l:Expr} {f:EF} (h:dJ X l f):Y9 X tg l (cU f):=cI (aDV h) fun ρ Q aJo=>by
 obtain ⟨ds,e,q⟩:=aJo
 obtain ⟨d,ed,e⟩:=bnd e
 refine ⟨d,ed,?_⟩
 cases d<;>first | cases e; done | skip
 all_goals (cases e; exact q)
theorem KC {fa:EF} {ρ:cD} {as:List D} (h:aA fa aC ρ=some as):∃ a,fa ρ=some a/\as=[a]:=by
 obtain ⟨a,ea,e⟩:=bnd h
 cases e
 exact ⟨a,ea,rfl⟩
theorem UC {fa fb:EF} {ρ:cD} {as:List D} (h:aA fa (aA fb aC) ρ=some as):∃ a b,fa ρ=some a/\fb ρ=some b/\as=[a,b]:=by
 obtain ⟨a,ea,e⟩:=bnd h
 obtain ⟨r,er,e⟩:=bnd e
 obtain ⟨b,eb,rfl⟩:=KC er
 cases e
 exact ⟨a,b,ea,eb,rfl⟩
theorem eE {a:Expr} {fa:EF} {p pos:Pos} (hm:X.mg "range" = none) (ha:dJ X a fa) (hg:Gl X "range" := by rfl) (hs:starEach [a] X.env=[(false,eval a X.env)]:=by rfl):Y9 X tg (.Call (.Name "range" p) [a] [] pos) (aU (aA fa aC)):=cI (aBD hm (aF ha aL hs) hg hs) fun ρ Q aJp=>by
 obtain ⟨ds,e,q⟩:=aJp
 obtain ⟨as,ea,e⟩:=bnd e
 refine ⟨as,ea,?_⟩
 obtain ⟨a,ha',rfl⟩:=KC ea
 clear ea ha'
 cases a<;>first | cases e; done | skip
 rename_i j
 by_cases h:j.natAbs<4611686018427387904
 ·have e:(if j.natAbs<4611686018427387904 then some ((aR 0 j.toNat).map D.int) else none)=some ds:=e
  rw [if_pos h] at e; cases e; exact ⟨⟨by omega,by omega⟩,q⟩
 ·have e:(if j.natAbs<4611686018427387904 then some ((aR 0 j.toNat).map D.int) else none)=some ds:=e
  rw [if_neg h] at e; cases e
theorem X4 {a b:Expr} {fa fb:EF} {p pos:Pos} (hm:X.mg "range" = none) (ha:dJ X a fa) (hb:dJ X b fb) (hg:Gl X "range" := by rfl) (hs:starEach [a,b] X.env=[(false,eval a X.env),(false,eval b X.env)]:=by rfl) (hs2:starEach [b] X.env=[(false,eval b X.env)]:=by rfl) :
  Y9 X tg (.Call (.Name "range" p) [a,b] [] pos) (aU (aA fa (aA fb aC))):=cI (XI hm (aF ha (aF hb aL hs2) (by rw [hs,hs2])) hg hs hs2) fun ρ Q aJq=>by
 obtain ⟨ds,e,q⟩:=aJq
 obtain ⟨as,ea,e⟩:=bnd e
 refine ⟨as,ea,?_⟩
 obtain ⟨a,b,ha',hb',rfl⟩:=UC ea
 clear ea ha' hb'
 cases a<;>first | (cases e; done) | skip
 all_goals (cases b<;>first | (cases e; done) | skip)
 rename_i i j
 by_cases h:i.natAbs<4611686018427387904/\j.natAbs<4611686018427387904
 ·have e:(if i.natAbs<4611686018427387904/\j.natAbs<4611686018427387904 then some ((aR i (j - i).toNat).map D.int) else none)=some ds:=e
  rw [if_pos h] at e; cases e; exact ⟨⟨by omega,by omega,by omega,by omega⟩,q⟩
 ·have e:(if i.natAbs<4611686018427387904/\j.natAbs<4611686018427387904 then some ((aR i (j - i).toNat).map D.int) else none)=some ds:=e
  rw [if_neg h] at e; cases e
end
theorem KF {a:Expr} {t:AF} {es:List Expr} {kk:Nat} {tp p pos:Pos} (hm:X.mg "enumerate" = none) (ha:FG X [a] t) (hg:Gl X "enumerate" := by rfl) (hs:starEach [a] X.env=[(false,eval a X.env)]:=by rfl):Y9 X (.Tuple es kk tp) (.Call (.Name "enumerate" p) [a] [] pos) (rK t):=cI (J9 hm ha hg hs) fun ρ Q aJr=>by
 obtain ⟨ds,e,q⟩:=aJr
 obtain ⟨as,ea,e⟩:=bnd e
 refine ⟨as,ea,?_⟩
 unfold K9 at e
 split at e<;>first | (cases e; exact q) | cases e
theorem zC {g:IN} {t:TF} {e:EF} {ρ:cD}:∀ (ds acc ys:List D) (Q:D->Prop),j6 g t e ρ ds=some ys->acc.length+ds.length<=sizeLine->Q (.lst (acc++ys))->sM (wGE g) (wT t) (wE e) ρ ds acc Q
 | [],acc,ys,Q,h,_,q=>by
  cases h
  rw [sM]
  simpa using q
 | d::ds,acc,ys,Q,h,hl,q=>by
  rw [sM]
  obtain ⟨ρ1,e1,h⟩:=bnd h
  obtain ⟨b,e2,h⟩:=bnd h
  simp only [List.length_cons] at hl
  refine ⟨ρ1,e1,b,e2,?_⟩
  cases b with
  | true =>
   rw [if_pos rfl] at h ⊢
   obtain ⟨y,e3,h⟩:=bnd h
   obtain ⟨zs,e4,rfl⟩:=y9 h
   exact ⟨y,e3,by omega,zC ds (acc++[y]) zs Q e4 (by simp; omega) (by simpa using q)⟩
  | false =>
   rw [if_neg Bool.false_ne_true] at h ⊢
   exact zC ds acc ys Q h (by omega) q
theorem UD {nl:Nat} {fr:List Nat} {it:AF} {g:IN} {t:TF} {e:EF} (ρ:cD) (Q:D->Prop) (w:wE (bV nl fr it g t e) ρ Q):MY nl fr (wI it) (wGE g) (wT t) (wE e) ρ Q:=by
 obtain ⟨d,h,q⟩:=w
 obtain ⟨ds,e1,h⟩:=bnd h
 refine ⟨ds,e1,?_⟩
 by_cases hl:ds.length<=tD
 ·rw [if_pos hl] at h
  obtain ⟨ys,e2,rfl⟩:=y9 h
  exact zC ds [] ys Q e2 (by rw [sizeLine_eq,List.length_nil,Nat.zero_add]; exact hl) (by simpa using q)
 ·rw [if_neg hl] at h; cases h
noncomputable abbrev X5 (X:Cx) (nl:Nat) (tg:Expr) (g:IN):Prop:=PG4 X nl tg (wGE g)
noncomputable abbrev X6 (X:Cx) (ifs:List Expr) (t:TF):Prop:=TQ X ifs (wT t)
theorem cG {nl:Nat} {tg:Expr} {g g':GE} (h:PG4 X nl tg g) (c:∀ d ρ Q,g' d ρ Q->g d ρ Q):PG4 X nl tg g':=TK h fun _ _ _ _ aJs=>by obtain ⟨S,ρ,d,Q3,hl,fc,sl,dn,hg,k⟩:=aJs; exact ⟨S,ρ,d,Q3,hl,fc,sl,dn,c d ρ Q3 hg,k⟩
theorem iC {nl i:Nat} {x:Str} {pos:Pos} (nd:X.N.Nodup) (hil:i<nl) (hi:X.N[i]? = some x:=by rfl) (hx:Loc X.env.scope x:=by first | exact .inl rfl | exact .inr rfl) (hfx:X.fn x=true\/X.env.scope.names.lookup x=some .local:=by first | exact .inr rfl | exact .inl rfl):X5 X nl (.Name x pos) (g1 i):=cG (aD1 nd hil hi hx hfx) fun d ρ Q aJt=>by obtain ⟨ρ',e,q⟩:=aJt; cases e; exact q
theorem X7 {d:D} {p:D×D} (h:AZ d=some p):d=.tup [p.1,p.2]:=by
 cases d<;>first | (cases h; done) | skip
 rename_i l
 cases l with
 | nil=>cases h
 | cons a l =>
  cases l with
  | nil=>cases h
  | cons b l =>
   cases l with
   | nil=>cases h; rfl
   | cons c l=>cases h
theorem KG {nl i j:Nat} {x y:Str} {kk:Nat} {pos px py:Pos} (hc:X.calm=true) (nd:X.N.Nodup) (hil:i<nl) (hjl:j<nl) (hi:X.N[i]? = some x:=by rfl) (hj:X.N[j]? = some y:=by rfl) (hx:Loc X.env.scope x:=by first | exact .inl rfl | exact .inr rfl) (hfx:X.fn x=true\/X.env.scope.names.lookup x=some .local:=by first | exact .inr rfl | exact .inl rfl) (hy:Loc X.env.scope y:=by first | exact .inl rfl | exact .inr rfl) (hfy:X.fn y=true\/X.env.scope.names.lookup y=some .local:=by first | exact .inr rfl | exact .inl rfl)
  (hn:(assignEach [.Name x px,.Name y py] X.env).length=2:=by rfl) (hst:(assignEach [.Name x px,.Name y py] X.env).findIdx? (·.1)=none:=by rfl)
  (hs1:(assignEach [.Name x px,.Name y py] X.env).map (·.2)=assign (.Name x px) X.env::(assignEach [.Name y py] X.env).map (·.2):=by rfl) (hs2:(assignEach [.Name y py] X.env).map (·.2)=assign (.Name y py) X.env::(assignEach [] X.env).map (·.2):=by rfl) :
  X5 X nl (.Tuple [.Name x px,.Name y py] kk pos) (g2 i j):=cG (aD2 hc nd hil hjl hi hj hx hfx hy hfy hn hst hs1 hs2) fun d ρ Q aJu=>by
 obtain ⟨ρ',e,q⟩:=aJu
 obtain ⟨p,ep,rfl⟩:=y9 e
 rw [X7 ep]
 exact q
theorem mK:X6 X [] cL:=fun pins s σ H Q I aJv=>by obtain ⟨S,ρ,Q3,fc,sl,⟨_,e,q⟩,k⟩:=aJv; cases e; exact aIc pins s σ H Q I ⟨S,ρ,Q3,fc,sl,q,k⟩
theorem EV {c:Expr} {t:TF} (h:AS X c t):X6 X [c] t:=aD4 h
section
variable {ls fs:List Str} {fr:List Nat} {sc:Scope} {tg iter elt:Expr} {ifs:List Expr} {pos:Pos} {it:AF} {g:IN} {t:TF} {e:EF}
theorem kK (hc:X.calm=true) (hi:Y9 X tg iter it)
  (hg:∀ cl C pn ex s H,(blk X (ls++fs) sc cl C pn ex s H).N.Nodup->X5 (blk X (ls++fs) sc cl C pn ex s H) ls.length tg g) (hf:∀ cl C pn ex s H,X6 (blk X (ls++fs) sc cl C pn ex s H) ifs t) (he:∀ cl C pn ex s H,dJ (blk X (ls++fs) sc cl C pn ex s H) elt e)
  (B:chk X.env.scope.names sc X.N ls fs fr=true:=by rfl) (hs:∀ x,foldedSetIterable iter X.env x=pure x:=by intro _; rfl):nD X (.ListComp elt [⟨tg,iter,ifs,0⟩] sc pos) (bV ls.length fr it g t e):=cF (aD5 hc hi hg hf he B hs) UD
variable {i:Nat} {x:Str} {spos pos':Pos}
theorem B9 (nd:X.N.Nodup) (hc:X.calm=true) (hi:Y9 X tg iter it)
  (hg:∀ cl C pn ex s H,(blk X (ls++fs) sc cl C pn ex s H).N.Nodup->X5 (blk X (ls++fs) sc cl C pn ex s H) ls.length tg g) (hf:∀ cl C pn ex s H,X6 (blk X (ls++fs) sc cl C pn ex s H) ifs t) (he:∀ cl C pn ex s H,dJ (blk X (ls++fs) sc cl C pn ex s H) elt e)
  (hx0:X.N[i]? = some x:=by rfl) (hx:X.env.scope.names.lookup x=some .local:=by rfl) (hsw:swapsWith (.ListComp elt [⟨tg,iter,ifs,0⟩] sc pos) (some (.Name x pos')) spos.line X.env=pure true:=by rfl)
  (B:chk X.env.scope.names sc X.N ls fs fr=true:=by rfl) (hs:∀ x,foldedSetIterable iter X.env x=pure x:=by intro _; rfl):y7 X (.Assign [.Name x pos'] (.ListComp elt [⟨tg,iter,ifs,0⟩] sc pos) spos) (aT i (bV ls.length fr it g t e)) :=
 cS (OH nd hc hi hg hf he hx0 hx hsw B hs) fun E ρ w=>by
  unfold wS aT at w
  unfold aAs
  cases h:bV ls.length fr it g t e (lI ρ) with
  | none=>rw [h] at w; exact w.elim
  | some d=>rw [h] at w; exact UD _ _ ⟨d,h,w⟩
end
end
section
variable {X:Cx}
theorem cO {e:Option Expr} {t t':WO} (h:PO3 X e t) (c:∀ ρ Q,t' ρ Q->t ρ Q):PO3 X e t':=fun pins s σ H Q I aJw=>by obtain ⟨S,ρ,Q3,fc,sl,ht,k⟩:=aJw; exact h pins s σ H Q I ⟨S,ρ,Q3,fc,sl,c ρ Q3 ht,k⟩
theorem no4:PO4 X none U9:=cO aJG fun _ _ aJx=>by obtain ⟨_,e,q⟩:=aJx; cases e; exact q
theorem po4 {e:Expr} {f:EF} (h:dJ X e f):PO4 X (some e) (oE f):=cO (po3 h) fun ρ Q aDu=>by
 obtain ⟨o,e,q⟩:=aDu
 obtain ⟨d,ed,e⟩:=bnd e
 obtain ⟨i,ei,rfl⟩:=y9 e
 refine ⟨d,ed,?_⟩
 cases d<;>first | cases ei; done | skip
 cases ei; exact q
theorem sl4 {e:Expr} {lo hi:Option Expr} {p2 pos:Pos} {f:EF} {fl fh:OF} (he:dJ X e f) (hl:PO4 X lo fl) (hh:PO4 X hi fh):dJ X (.Subscript e (.Slice lo hi none p2) pos) (VA f fl fh):=cE (sl3 he hl hh) fun ρ Q aDv=>by
 obtain ⟨r,e,q⟩:=aDv
 obtain ⟨d,ed,e⟩:=bnd e
 obtain ⟨l,el,e⟩:=bnd e
 obtain ⟨h,eh,e⟩:=bnd e
 refine ⟨d,ed,l,el,h,eh,?_⟩
 cases d<;>first | cases e; done | skip
 all_goals (cases e; exact q)
theorem px4 {e:Expr} {f:EF} (h:dJ X e f):U3 X e (p7 f):=cX (px3 h) fun ρ Q aDw=>by
 obtain ⟨p,e,q⟩:=aDw
 obtain ⟨d,ed,e⟩:=bnd e
 refine ⟨d,ed,?_⟩
 by_cases hi:d.IG=true
 ·rw [if_pos hi] at e; cases e; exact ⟨hi,q⟩
 ·rw [if_neg hi] at e; cases e
theorem zD {e:Expr} {f:EF} (h:dJ X e f):U3 X e (bT f):=cX (aIG h) fun ρ Q aDx=>by
 obtain ⟨p,e,q⟩:=aDx
 obtain ⟨d,ed,e⟩:=bnd e
 cases e
 exact ⟨d,ed,q⟩
theorem KH {o:Option Sv} {ds:List D} (h:qH o=some ds):o=some (.ow (.lst ds)):=by
 unfold qH at h
 split at h
 ·cases h; rfl
 ·cases h
noncomputable def KI (f:List D->D->(List D->D->Prop)->Prop) (m:List D->D->Option (List D×D)):Prop:=∀ ds d q (Q:List D->D->Prop),m ds d=some q->Q q.1 q.2->f ds d Q
theorem aDy {i:Nat} {f:List D->D->(List D->D->Prop)->Prop} {m:List D->D->Option (List D×D)} (h:KI f m) {x:XF} (ρ:bF) (Q:bF->D->Prop) (w:wX (rH i m x) ρ Q):wM1 i f (wX x) ρ Q:=by
 obtain ⟨r,e,q⟩:=w
 obtain ⟨ds0,e0,e⟩:=bnd e
 obtain ⟨p,ep,e⟩:=bnd e
 obtain ⟨ds,e1,e⟩:=bnd e
 obtain ⟨z,ez,rfl⟩:=y9 e
 have o0:=KH e0
 have o1:=KH e1
 refine ⟨by rw [o0]; trivial,p,ep,?_⟩
 show (match p.1[i]? with | some (.ow (.lst ds))=>f ds p.2 fun ds' r=>Q (p.1.set i (.ow (.lst ds'))) r | _=>False)
 rw [o1]
 exact h ds p.2 z _ ez q
theorem OU:KI aAu iK:=fun ds d q Q e k=>by
 unfold iK at e
 by_cases h:ds.length<tD
 ·rw [if_pos h] at e; cases e; exact ⟨by rw [sizeLine_eq]; exact h,k⟩
 ·rw [if_neg h] at e; cases e
theorem OV:KI aAw VB:=fun ds d q Q e k=>by
 cases d<;>first | cases e; done | skip
 rename_i i
 have e:(if i.natAbs<9223372036854775808 then (P0 ds.length i).bind fun j=>(ds[j]?).map fun d=>(ds.eraseIdx j,d) else none)=some q:=e
 by_cases h:i.natAbs<9223372036854775808
 ·rw [if_pos h] at e
  obtain ⟨j,ej,e⟩:=bnd e
  obtain ⟨d,ed,rfl⟩:=y9 e
  have ej:N6 ds.length i=some j:=ej
  refine ⟨⟨by omega,by omega⟩,?_⟩
  show (match N6 ds.length i with | some j=>(match ds[j]? with | some d=>Q (ds.eraseIdx j) d | none=>False) | none=>False)
  rw [ej]
  dsimp only
  rw [ed]
  exact k
 ·rw [if_neg h] at e; cases e
section
variable {i:Nat} {x:Str} {e:Expr} {p apos cpos:Pos} {f:XF}
theorem OW (he:U3 X e f) (hN:X.N[i]? = some x:=by rfl) (hv:GU X.env.scope x:=by first | exact Or.inl rfl | exact Or.inr (Or.inl rfl) | exact Or.inr (Or.inr rfl)) (hd:(x == ("__debug__" : Str))=false:=by decide) (hcd:(x == ("__classdict__" : Str))=false:=by decide)
  (hbase:attributeBase (.Name x p) "append" X.env (eval (.Name x p) X.env)=eval (.Name x p) X.env:=by rfl)
  (hfew:((backTo cpos (starEach [e] X.env)).all (fun x=>!x.1)&&(backToKw cpos (keywordEach [] X.env)).all (fun x=>x.1.isSome)
   && decide ([e].length+([]:List Keyword).length+(if ([]:List Keyword).isEmpty then 0 else 1)<30))=true:=by rfl)
  (hline:(apos.endLine == cpos.line)=true:=by rfl) (hs:starEach [e] X.env=(false,eval e X.env)::starEach [] X.env:=by rfl) :
  U3 X (.Call (.Attribute (.Name x p) "append" apos) [e] [] cpos) (rH i iK f):=cX (aIJ he hN hv hd hcd hbase hfew hline hs) (aDy OU)
theorem aJz (he:U3 X e f) (hN:X.N[i]? = some x:=by rfl) (hv:GU X.env.scope x:=by first | exact Or.inl rfl | exact Or.inr (Or.inl rfl) | exact Or.inr (Or.inr rfl)) (hd:(x == ("__debug__" : Str))=false:=by decide) (hcd:(x == ("__classdict__" : Str))=false:=by decide)
  (hbase:attributeBase (.Name x p) "pop" X.env (eval (.Name x p) X.env)=eval (.Name x p) X.env:=by rfl)
  (hfew:((backTo cpos (starEach [e] X.env)).all (fun x=>!x.1)&&(backToKw cpos (keywordEach [] X.env)).all (fun x=>x.1.isSome)
   && decide ([e].length+([]:List Keyword).length+(if ([]:List Keyword).isEmpty then 0 else 1)<30))=true:=by rfl)
  (hline:(apos.endLine == cpos.line)=true:=by rfl) (hs:starEach [e] X.env=(false,eval e X.env)::starEach [] X.env:=by rfl) :
  U3 X (.Call (.Attribute (.Name x p) "pop" apos) [e] [] cpos) (rH i VB f):=cX (aIK he hN hv hd hcd hbase hfew hline hs) (aDy OV)
end
theorem lV:ET X [] eJ:=cSs aHp fun _ _ w=>w
theorem aDz {f g:SF} (E:DE) (ρ:bF) (w:wS (aJ f g) E ρ):aAr (wS f) (wS g) E ρ:=by
 unfold wS aJ at w
 unfold aAr wS
 cases h:f ρ with
 | nx ρ'=>rw [h] at w; exact w
 | rt d=>rw [h] at w; exact w
 | no=>rw [h] at w; exact w
 | ex c=>rw [h] at w; exact w
theorem bK {st:Stmt} {rest:List Stmt} {f g:SF} (h1:y7 X st f) (h2:ET X rest g):ET X (st::rest) (aJ f g):=cSs (aHr h1 h2) aDz
theorem aX {st:Stmt} {f:SF} (h1:y7 X st f):ET X [st] f:=aDP h1
theorem aBV {st:Stmt}:y7 X st (fun _=>.no):=fun pins s σ H D I aEA=>by obtain ⟨_,_,_,_,_,_,_,_,ht,_⟩:=aEA; exact ht.elim
theorem eR {e:Expr} {f:EF} {pos:Pos} (h:dJ X e f):y7 X (.Return (some e) pos) (bD f):=cS (aHu h) fun E ρ w=>by
 unfold wS bD at w
 cases h:f (dR ρ) with
 | none=>rw [h] at w; exact w.elim
 | some d=>rw [h] at w; exact ⟨d,h,w⟩
theorem kW {c:Expr} {a b:List Stmt} {pos:Pos} {t:TF} {f g:SF} (hc:AS X c t) (ha:ET X a f) (hb:ET X b g):y7 X (.If c a b pos) (iF t f g):=cS (aHx hc ha hb) fun E ρ w=>by
 unfold wS iF at w
 cases h:t (dR ρ) with
 | none=>rw [h] at w; exact w.elim
 | some c =>
  rw [h] at w
  refine ⟨c,h,?_⟩
  cases c with
  | true=>rw [if_pos rfl]; exact w
  | false=>rw [if_neg Bool.false_ne_true]; exact w
section
variable {i:Nat} {x:Str} {e:Expr} {f:EF} {pos pos':Pos}
theorem dU (hN:X.N.Nodup) (he:dJ X e f) (hi:X.N[i]? = some x:=by rfl) (hx:Loc X.env.scope x:=by first | exact .inl rfl | exact .inr rfl) (hs:swapsWith e (some (.Name x pos')) pos.line X.env=pure false:=by rfl) (hf:X.fn x=true\/X.env.scope.names.lookup x=some .local:=by first | exact .inl rfl | exact .inr rfl) :
  y7 X (.Assign [.Name x pos'] e pos) (aT i f):=cS (aIA hN he hi hx hs hf) fun E ρ w=>by
 unfold wS aT at w
 cases h:f (lI ρ) with
 | none=>rw [h] at w; exact w.elim
 | some d=>rw [h] at w; exact ⟨d,h,w⟩
theorem EW (hN:X.N.Nodup) (he:nD X e f) (hi:X.N[i]? = some x:=by rfl) (hx:Loc X.env.scope x:=by first | exact .inl rfl | exact .inr rfl) (hs:swapsWith e (some (.Name x pos')) pos.line X.env=pure false:=by rfl) (hf:X.fn x=true\/X.env.scope.names.lookup x=some .local:=by first | exact .inl rfl | exact .inr rfl) :
  y7 X (.Assign [.Name x pos'] e pos) (hW i f):=cS (aIC hN he hi hx hs hf) fun E ρ w=>by
 unfold wS hW at w
 cases h:f (lI ρ) with
 | none=>rw [h] at w; exact w.elim
 | some d=>rw [h] at w; exact ⟨d,h,w⟩
theorem aEB (hN:X.N.Nodup) (he:nD X e f) (hi:X.N[i]? = some x:=by rfl) (hx:Loc X.env.scope x:=by first | exact .inl rfl | exact .inr rfl) (hs:swapsWith e (some (.Name x pos')) pos.line X.env=pure false:=by rfl) (hf:X.fn x=true\/X.env.scope.names.lookup x=some .local:=by first | exact .inl rfl | exact .inr rfl) :
  y7 X (.Assign [.Name x pos'] e pos) (wQ i f):=cS (aDb hN he hi hx hs hf) fun E ρ w=>by
 unfold wS wQ at w
 cases h:f (dR ρ) with
 | none=>rw [h] at w; exact w.elim
 | some d =>
  rw [h] at w
  dsimp only at w
  by_cases hl:wN d=true
  ·rw [if_pos hl] at w
   refine ⟨d,h,?_,w⟩
   cases d<;>first | exact hl | cases hl
  ·rw [if_neg hl] at w; exact w.elim
theorem UE {p:Pos} (hN:X.N.Nodup) (hi:X.N[i]? = some x:=by rfl) (hx:Loc X.env.scope x:=by first | exact .inl rfl | exact .inr rfl) (hs:swapsWith (.Dict [] [] p) (some (.Name x pos')) pos.line X.env=pure false:=by rfl) (hf:X.fn x=true\/X.env.scope.names.lookup x=some .local:=by first | exact .inl rfl | exact .inr rfl) :
  y7 X (.Assign [.Name x pos'] (.Dict [] [] p) pos) (FO i):=cS (TV hN hi hx hs hf) fun E ρ w=>w
end
theorem sQ {e:Expr} {f:XF} {pos:Pos} (he:U3 X e f) (hs:swapsWith e none pos.line X.env=pure false:=by rfl):y7 X (.Expr e pos) (sX f):=cS (aDS he hs) fun E ρ w=>by
 unfold wS sX at w
 cases h:f ρ with
 | none=>rw [h] at w; exact w.elim
 | some d=>rw [h] at w; exact ⟨d,h,w⟩
theorem aBW {i:Nat} {x:Str} {e k:Expr} {f:XF} {fk:EF} {pos pos' p:Pos} (he:U3 X e f) (hk:dJ X k fk)
  (hN:X.N[i]? = some x:=by rfl) (hv:GU X.env.scope x:=by first | exact Or.inl rfl | exact Or.inr (Or.inl rfl) | exact Or.inr (Or.inr rfl)) (hd:(x == ("__debug__" : Str))=false:=by decide) (hcd:(x == ("__classdict__" : Str))=false:=by decide)
  (ha:∀ v,assign (.Subscript (.Name x p) k pos') X.env v=(do
   let ov <- holding [v] (eval (.Name x p) X.env)
   let iv <- holding [v,ov] (eval k X.env)
   standAt pos'
   holding [v,ov,iv] (setItem ov iv v)
   release [v,ov,iv] []):=by intro _; rfl)
  (hs:swapsWithSole [.Subscript (.Name x p) k pos'] e pos.line X.env=pure false:=by rfl) (hw:swappedStores [.Subscript (.Name x p) k pos'] e X.env=pure none:=by rfl)
  (h1:(assignEach [.Subscript (.Name x p) k pos'] X.env).map (·.2)=[assign (.Subscript (.Name x p) k pos') X.env]:=by rfl) :
  y7 X (.Assign [.Subscript (.Name x p) k pos'] e pos) (uY i f fk):=cS (put3 he hk hN hv hd hcd ha hs hw h1) fun E ρ w=>by
 unfold wS uY at w
 cases h:((f ρ).bind fun p=>(qH p.1[i]?).bind fun ds=>(fk (dR p.1)).bind fun kd=>(asInt kd).bind fun kk=>(P0 ds.length kk).map fun j=>p.1.set i (.ow (.lst (ds.set j p.2)))) with
 | none=>rw [h] at w; exact w.elim
 | some ρ' =>
  rw [h] at w
  obtain ⟨q,eq,h⟩:=bnd h
  obtain ⟨ds,ed,h⟩:=bnd h
  obtain ⟨kd,ek,h⟩:=bnd h
  obtain ⟨kk,e2,h⟩:=bnd h
  obtain ⟨j,ej,rfl⟩:=y9 h
  have o:=KH ed
  refine ⟨q,eq,by unfold aAy; rw [o]; trivial,kd,ek,?_⟩
  cases kd<;>first | cases e2; done | skip
  cases e2
  have ej:N6 ds.length kk=some j:=ej
  show (match q.1[i]?,D.int kk with
   | some (.ow (.lst ds)),.int k=>(match N6 ds.length k with | some j=>E.nx (q.1.set i (.ow (.lst (ds.set j q.2)))) | none=>False)
   | _,_=>False)
  rw [o]
  dsimp only
  rw [ej]
  exact w
theorem OX {o:Option Sv} {p:List (Sum Int Str)×List D} (h:wR o=some p):o=some (.ow (.kR p.1 p.2)):=by
 unfold wR at h
 split at h
 ·cases h; rfl
 ·cases h
theorem aEC {i:Nat} {x:Str} {e k:Expr} {f:XF} {fk:EF} {pos pos' p:Pos} (hu:X.A.units+1<cLine) (he:U3 X e f) (hk:dJ X k fk)
  (hN:X.N[i]? = some x:=by rfl) (hv:GU X.env.scope x:=by first | exact Or.inl rfl | exact Or.inr (Or.inl rfl) | exact Or.inr (Or.inr rfl)) (hd:(x == ("__debug__" : Str))=false:=by decide) (hcd:(x == ("__classdict__" : Str))=false:=by decide)
  (hs:swapsWith e (some (.Subscript (.Name x p) k pos')) pos.line X.env=pure false:=by rfl) :
  y7 X (.Assign [.Subscript (.Name x p) k pos'] e pos) (LB i f fk):=cS (aD9 hu he hk hN hv hd hcd hs) fun E ρ w=>by
 unfold wS LB at w
 cases h:((f ρ).bind fun p=>(wR p.1[i]?).bind fun kd=>(fk (dR p.1)).bind fun kv=>(wL kv).bind fun kk =>
  if (kX kd.1 kd.2 kk).isNone=true/\kd.2.length<tD then some (p.1.set i (.ow (.kR (kd.1++[kk]) (kd.2++[p.2])))) else none) with
 | none=>rw [h] at w; exact w.elim
 | some ρ' =>
  rw [h] at w
  obtain ⟨q,eq,h⟩:=bnd h
  obtain ⟨kd,ed,h⟩:=bnd h
  obtain ⟨kv,ek,h⟩:=bnd h
  obtain ⟨kk,e2,h⟩:=bnd h
  have o:=OX ed
  by_cases hc:(kX kd.1 kd.2 kk).isNone=true/\kd.2.length<tD
  ·rw [if_pos hc] at h
   cases h
   refine ⟨q,eq,by rw [o]; trivial,kv,ek,?_⟩
   have e3:HD kv=some kk:=by cases kv<;>first | exact e2 | cases e2
   show (match q.1[i]?,HD kv with
    | some (.ow (.kR ks ds)),some k=>(lC ks ds k=none/\ds.length<sizeLine)/\E.nx (q.1.set i (.ow (.kR (ks++[k]) (ds++[q.2]))))
    | _,_=>False)
   rw [o,e3]
   refine ⟨⟨?_,by rw [sizeLine_eq]; exact hc.2⟩,w⟩
   have:=hc.1
   cases hl:kX kd.1 kd.2 kk with
   | none=>exact hl
   | some d=>rw [hl] at this; cases this
  ·rw [if_neg hc] at h; cases h
theorem cGS {tg:Expr} {g g':WG} (h:PG3 X tg g) (c:∀ d ρ Q,g' d ρ Q->g d ρ Q):PG3 X tg g':=TK h fun _ _ _ _ aED=>by obtain ⟨H₀,S,w,ρ,G,d,Q3,hl,st,dn,hg,k⟩:=aED; exact ⟨H₀,S,w,ρ,G,d,Q3,hl,st,dn,c d ρ Q3 hg,k⟩
theorem jB {i:Nat} {x:Str} {pos:Pos} (hN:X.N.Nodup) (hi:X.N[i]? = some x:=by rfl) (hx:Loc X.env.scope x:=by first | exact .inl rfl | exact .inr rfl) (hf:X.fn x=true\/X.env.scope.names.lookup x=some .local:=by first | exact .inl rfl | exact .inr rfl):PG3 X (.Name x pos) (wG (j8 i)) :=
 cGS (aDX hN hi hx hf) fun d ρ Q aEE=>by obtain ⟨ρ',e,q⟩:=aEE; cases e; exact q
theorem oC {tg iter:Expr} {body:List Stmt} {it:AF} {g:P4} {b:SF} {pos:Pos} (hc:X.calm=true) (hp:PassesOwn (model X.prog X.w) X.A X.env X.xe) (hi:Y9 X tg iter it) (hg:PG3 X tg (wG g)) (hb:ET X body b)
  (hs:∀ x,foldedSetIterable iter X.env x=pure x:=by intro _; rfl):y7 X (.For tg iter body [] pos) (dQ it g b):=cS (aIT hc hp hi hg hb hs) fun E ρ w=>by
 unfold wS dQ at w
 cases h:it (lI ρ) with
 | none=>rw [h] at w; exact w.elim
 | some ds =>
  rw [h] at w
  refine ⟨ds,h,fun i ρ'=>wS (jN g b (ds.drop i)) E ρ',(by show wS (jN g b (ds.drop 0)) E ρ; rw [List.drop_zero]; exact w),fun i d ρ' hd iv=>?_,fun ρ' iv=>?_⟩
  ·have hi:i<ds.length:=(List.getElem?_eq_some_iff.mp hd).1
   have e1:ds[i]=d:=(List.getElem?_eq_some_iff.mp hd).2
   have iv:wS (jN g b (ds.drop i)) E ρ':=iv
   rw [List.drop_eq_getElem_cons hi,e1] at iv
   unfold wS jN at iv
   cases hg:g d ρ' with
   | none=>rw [hg] at iv; exact iv.elim
   | some ρ1 =>
    rw [hg] at iv
    dsimp only at iv
    refine ⟨ρ1,hg,?_⟩
    unfold wS
    cases hb:b ρ1 with
    | nx ρ2=>rw [hb] at iv; dsimp only; rw [hb]; exact iv
    | rt d=>rw [hb] at iv; dsimp only; rw [hb]; exact iv
    | no=>rw [hb] at iv; dsimp only; rw [hb]; exact iv
    | ex c=>rw [hb] at iv; dsimp only; rw [hb]; exact iv
  ·have iv:wS (jN g b (ds.drop ds.length)) E ρ':=iv
   rw [List.drop_length] at iv
   exact iv
theorem aBX {c:Expr} {body:List Stmt} {t:TF} {b:SF} {pos:Pos} {n:Nat} (hp:PassesOwn (model X.prog X.w) X.A X.env X.xe) (hc:AS X c t) (hb:ET X body b):y7 X (.While c body [] pos) (IP n t b):=cS (aBM hp hc hb) fun E ρ w=>by
 have least:∀ {p:Nat->Prop},(∃ n,p n) -> ∃ n,p n /\ ∀ m,p m->n<=m:=fun {p} ⟨n,hn⟩=>by
  induction n using Nat.strongRecOn with
  | ind n ih =>
   by_cases h:∃ m,m<n/\p m
   ·obtain ⟨m,hm,pm⟩:=h; exact ih m hm pm
   ·exact ⟨n,hn,fun m pm=>by
     apply Classical.byContradiction
     intro z
     exact h ⟨m,by omega,pm⟩⟩
 refine ⟨fun ρ'=>∃ m,wS (fQ t b m) E ρ',fun ρ'=>(Classical.epsilon fun m=>wS (fQ t b m) E ρ' /\ ∀ k,wS (fQ t b k) E ρ'->m<=k),⟨n,w⟩,fun ρ' iv=>?_⟩
 obtain ⟨m0,hm0⟩:=least iv
 have hm:=Classical.epsilon_spec (p:=fun m=>wS (fQ t b m) E ρ' /\ ∀ k,wS (fQ t b k) E ρ'->m<=k) ⟨m0,hm0⟩
 dsimp only
 generalize (Classical.epsilon fun m=>wS (fQ t b m) E ρ' /\ ∀ k,wS (fQ t b k) E ρ'->m<=k)=m at hm ⊢
 cases m with
 | zero=>exact hm.1.elim
 | succ m =>
  have h1:=hm.1
  unfold wS fQ at h1
  cases ht:t (dR ρ') with
  | none=>rw [ht] at h1; exact h1.elim
  | some c =>
   rw [ht] at h1
   refine ⟨c,ht,?_⟩
   cases c with
   | false=>rw [if_neg Bool.false_ne_true]; exact h1
   | true =>
    rw [if_pos rfl]
    dsimp only at h1
    unfold wS
    cases hb:b ρ' with
    | nx ρ2 =>
     rw [hb] at h1
     have h2:wS (fQ t b m) E ρ2:=h1
     refine ⟨⟨m,h2⟩,?_⟩
     obtain ⟨k0,hk0⟩:=least (p:=fun m=>wS (fQ t b m) E ρ2) ⟨m,h2⟩
     have hk:=Classical.epsilon_spec (p:=fun m=>wS (fQ t b m) E ρ2 /\ ∀ k,wS (fQ t b k) E ρ2->m<=k) ⟨k0,hk0⟩
     exact Nat.lt_succ_of_le (hk.2 m h2)
    | rt d=>rw [hb] at h1; exact h1
    | no=>rw [hb] at h1; exact h1
    | ex c=>rw [hb] at h1; exact h1
end
theorem gI {P:Program} {w:World} {K:PySem.W.Frag} {mg:Str->Option Value} {base:Heap} {x qual:Str} {st:Stmt} {f:Addr} {fd:FuncData} {N ps:List Str} {k n np:Nat} {b:SF} (F:l0 K x qual st f fd) (S:bB N ps (aH st)) (hn:N.length=n) (hp:ps.length=np)
  (hbody:∀ (cdv:Value) (A:Around) (outer:List Env) (s:Shared) (H:Hp) (E:XK),kU k (A.deeper (envOfC qual (aH st) s.heap.objs.size f cdv)) ->
   ET (EA cQ P w K mg base N qual (aH st) f cdv A outer s H E).nox (aZ st) b):aQ P w K mg base cQ (k+1) f fd ps (dL K (cM n np b)):=by
 subst hn hp
 refine aIE F S (fun ds Q ⟨d,e,q⟩=>?_) fun cdv A outer s H E hr=>⟨_,hbody cdv A outer s H E hr,fun ds Q ⟨d,e,q⟩=>?_⟩
 ·unfold cM at e
  by_cases h:ds.length=ps.length
  ·exact h
  ·rw [if_neg h] at e; cases e
 ·unfold cM at e
  by_cases h:ds.length=ps.length
  ·rw [if_pos h] at e
   have e2:n5 N ds=eA N.length ds:=rfl
   unfold wS
   rw [e2]
   cases hb:b (eA N.length ds) with
   | rt d'=>rw [hb] at e; cases e; exact q
   | nx ρ=>rw [hb] at e; cases e; exact q
   | no=>rw [hb] at e; cases e
   | ex c=>rw [hb] at e; cases e
  ·rw [if_neg h] at e; cases e
theorem aEF {P:Program} {w:World} {K:PySem.W.Frag} {mg:Str->Option Value} {base:Heap} {k:Nat} {f:Addr} {fd:FuncData} {ps:List Str}:aQ P w K mg base cQ k f fd ps (dL K fun _=>.no) :=
 ⟨fun _ _ _ _ h=>(by obtain ⟨_,_,_,_,_,⟨_,e,_⟩,_⟩:=h; cases e),fun _ _ _ _ _ _ _ _ _ _ _ _ _ h=>(by obtain ⟨_,_,_,_,_,⟨_,e,_⟩,_⟩:=h; cases e)⟩
section
variable {X:Cx} {pins:List (Addr×Obj)} {σ:L2.St} {H:Hp}
theorem HK {s:Shared} {x:V} {v:Value} {k:Bool} {A:Around} {E:Value->Shared->Prop} {Q:Bool->Shared->Prop} (I:Inv X pins σ H s) (rx:RelV x v) (e:x=.bl k\/(∃ p xs,x=.ref p/\(gB X.K H p xs\/iP X.K H p xs)/\k=!xs.isEmpty))
  (q:∀ tk,Q k { s with toks:=tk }):wpAny (model X.prog X.w) A (truthy v) Q E s:=by
 have hs:sizeLine=16777216:=sizeLine_eq
 rcases e with rfl | ⟨p,xs,rfl,hx,rfl⟩
 ·cases rx
  exact wpAny_truthy_bool (q s.toks)
 ·cases rx
  rcases hx with hx | hx
  ·obtain ⟨its,r,pl,hz⟩:=I.list hx
   have hlen:=r.length
   exact wpAny_truthy_list pl.isList (by simp only [List.size_toArray]; omega) (by rw [nA r]; exact q _)
  ·obtain ⟨its,r,pl,hz⟩:=I.tuple hx
   have hlen:=r.length
   exact truthy_tuple pl (by simp only [List.size_toArray]; omega) (by rw [nA r]; exact q _)
noncomputable def TrV (K:PySem.W.Frag) (H:Hp) (x:V) (k:Bool):Prop:=x=.bl k\/(∃ p xs,x=.ref p/\(gB K H p xs\/iP K H p xs)/\k=!xs.isEmpty)
theorem OY {n j:Nat} (h:j<n):(List.range n).drop j=j::(List.range n).drop (j+1):=by
 have hl:j<(List.range n).length:=by rw [List.length_range]; exact h
 rw [List.drop_eq_getElem_cons hl,List.getElem_range]
section
variable {it:Addr} {fp wr:List Addr} {n:Nat} {P:Nat->Value->Prop} {St:Nat->Heap->Prop} {R:Result->Shared->Prop} {tr:Nat->Bool}
theorem CA (W:Walks X.prog X.w X.A.in1 it fp wr n P St) (hf:∀ b∈wr,qV X pins H b) (ht:∀ j v,P j v -> ∃ x,RelV x v/\TrV X.K H x (tr j)) :
  ∀ (m j:Nat) (st:Shared),m+j=n->Inv X pins σ H st->St j st.heap->(∀ st',Inv X pins σ H st'->R (.ok (.ret (.bool (((List.range n).drop j).all tr)))) st')->codeAny (model X.prog X.w) X.A (.builtin "all.loop" ⟨[.ref it],[]⟩) R st
 | 0,j,st,hj,I,hS,k=>by
  obtain rfl:j=n:=by omega
  refine codeAny_builtin (F.entry_all_loop) ?_
  rw [Around.under_plainId F.plain_all_loop]
  refine wpAny_bind (W.done st _ _ hS fun h2 t2 kp=>wpAny_bind (wpAny_rule (wpAny_pure ?_)))
  have:=k _ (TY (t':=t2) I kp hf)
  rwa [List.drop_eq_nil_of_le (by simp)] at this
 | m+1,j,st,hj,I,hS,k=>by
  have hjn:j<n:=by omega
  refine codeAny_builtin (F.entry_all_loop) ?_
  rw [Around.under_plainId F.plain_all_loop]
  refine wpAny_bind (W.item j st _ _ hjn hS fun v h2 t2 pv hS2 kp=>?_)
  have I2:Inv X pins σ H { st with heap:=h2,toks:=t2 }:=TY (t':=t2) I kp hf
  obtain ⟨x,rx,hx⟩:=ht j v pv
  rw [OY hjn,List.all_cons] at k
  refine wpAny_bind (wpAny_holding (HK I2 rx hx fun t3=>wpAny_bind (wpAny_letGo ?_)))
  have I3:Inv X pins σ H { st with heap:=h2,toks:=t3 }:=I2.tok t3
  cases hb:tr j with
  | true =>
   rw [hb,Bool.true_and] at k
   rw [if_pos rfl]
   exact wpAny_pure ⟨plainId_quiet F.plain_all_loop _,CA W hf ht m (j+1) _ (by omega) I3 hS2 k⟩
  | false =>
   rw [hb,Bool.false_and] at k
   rw [if_neg Bool.false_ne_true]
   exact wpAny_bind (wpAny_rule (wpAny_pure (k _ I3)))
end
noncomputable def aEG (f:List Bool->Bool) (K:PySem.W.Frag):List V->Hp->VK->Prop:=fun xs H Q=>∃ a ys bs,xs=[.ref a]/\H a=some (.lst ys)/\bs.length=ys.length/\(∀ (j:Nat) (y:V) (b:Bool),ys[j]? = some y->bs[j]? = some b->TrV K H y b)/\Q (.bl (f bs)) H
theorem OZ (hc:X.calm=true):jA X (.builtin "all") (aEG (fun bs=>bs.all id) X.K):=by
 intro pins s σ H xs us Q I r h
 obtain ⟨a,ys,bs,rfl,ha,hl,ht,q⟩:=h
 obtain ⟨u,rfl,ru⟩:=vals1 r
 cases ru
 obtain ⟨its,rv,p,hz⟩:=I.list (gB.of ha)
 have hlt:a<s.heap.objs.size:=by obtain ⟨o,n,e,_⟩:=p; exact Heap.lt_size e
 have hn:its.length=ys.length:=rv.length.symm
 have ht2:∀ j v,its.toArray[j]? = some v -> ∃ x,RelV x v/\TrV X.K H x (bs.getD j true):=fun j v e=>by
  have e1:its[j]? = some v:=by simpa using e
  have hj:j<ys.length:=by have:=(List.getElem?_eq_some_iff.mp e1).1; omega
  obtain ⟨u,e2,ru⟩:=rv.get (List.getElem?_eq_getElem hj)
  rw [e1] at e2
  cases e2
  refine ⟨_,ru,ht j _ _ (List.getElem?_eq_getElem hj) ?_⟩
  rw [List.getD_eq_getElem?_getD,List.getElem?_eq_getElem (by omega)]
  rfl
 refine call_function_tree (F.kind_all) F.plain_all F.entry_all (F.args_all1 _) ?_
 unfold Builtin.«all»
 refine wpAny_bind (m:=oneArg "all" _) (wpAny_pure (wpAny_bind (wpAny_pyIter_list p.isList (wpAny_pure ⟨plainId_quiet F.plain_all_loop _,?_⟩))))
 have hfr:H s.heap.objs.size=none:=I.hok.fresh (Nat.le_refl _)
 have I1:Inv X pins σ H { s with heap:=s.heap.push { cls:=.type "list_iterator",data:=.fields #[.ref a,rawInt 0] } }:=I.kept (t':=s.toks) fun b o e=>Heap.get?_push_of_some _ e
 refine CA (X:=X) (pins:=pins) (σ:=σ) (H:=H) (tr:=fun j=>bs.getD j true) (Walks.list (A:=X.A.in1) (show X.A.in1.handled=none from I.ok.hd hc) s.heap.objs.size a (Nat.ne_of_lt hlt) its.toArray) (fun b hb=>?_) ht2 its.toArray.size 0 _ rfl I1
  ⟨⟨_,Heap.get?_push_size _ rfl,rfl,rfl⟩,p.isList.at fun o e=>Heap.get?_push_of_some _ e⟩ fun st' I'=>?_
 ·cases List.mem_singleton.mp hb
  exact I.JJ (Nat.le_refl _) hfr
 ·refine ⟨.bl _,H,I',rfl,?_⟩
  rw [List.drop_zero,show its.toArray.size=bs.length by simp [hn,hl],range_all]
  exact q
theorem ZA {K:PySem.W.Frag} {S:Addr->Prop} {H:Hp}:∀ {es:List D} {ys:List V} {bs:List Bool},bA K S H es ys->qF es=some bs->bs.length=ys.length /\ ∀ (j:Nat) (y:V) (b:Bool),ys[j]? = some y->bs[j]? = some b->TrV K H y b
 | [],ys,bs,dn,h=>by
  simp only [bA] at dn
  subst dn
  cases h
  exact ⟨rfl,fun j y b e=>by simp at e⟩
 | d::es,ys,bs,dn,h=>by
  obtain ⟨v,r,rfl,h1,h2⟩:=dn.bW
  obtain ⟨b,eb,h⟩:=bnd h
  obtain ⟨bs',e2,rfl⟩:=y9 h
  obtain ⟨hl,ih⟩:=ZA h2 e2
  refine ⟨by simp [hl],fun j y c ey ec=>?_⟩
  cases j with
  | zero =>
   simp at ey ec
   subst ey ec
   cases d<;>first | cases eb; done | skip
   ·cases eb; simp only [Dn] at h1; exact .inl h1
   ·cases eb; simp only [Dn] at h1; obtain ⟨a,xs,rfl,ha,da⟩:=h1; exact .inr ⟨a,xs,rfl,.inr (iP.of ha),by rw [<- da.empty]⟩
   ·cases eb; simp only [Dn] at h1; obtain ⟨a,xs,rfl,ha,_,da⟩:=h1; exact .inr ⟨a,xs,rfl,.inl (gB.of ha),by rw [<- da.empty]⟩
  | succ j=>exact ih j y c (by simpa using ey) (by simpa using ec)
noncomputable def trF (f:List Bool->Bool):F1
 | [.lst es],Q=>∃ bs,qF es=some bs/\Q (.bl (f bs))
 | _,_=>False
theorem aBY {K:PySem.W.Frag} {f:List Bool->Bool}:C3 K (aEG f K) (trF f):=by
 intro S H xs ds Q3 Q fc hd hf k
 match ds,hf with
 | [.lst es],⟨bs,eb,q⟩ =>
  obtain ⟨v,r,rfl,h1,h2⟩:=hd.bW
  simp only [bA] at h2
  subst h2
  simp only [Dn] at h1
  obtain ⟨a,ys,rfl,ha,sa,da⟩:=h1
  obtain ⟨hl,ht⟩:=ZA da eb
  exact ⟨a,ys,bs,rfl,ha,hl,ht,k _ H _ (Same.refl H) (by simp only [Dn]) q⟩
theorem aBZ {p pos:Pos} {e:Expr} {t:AF} (hc:X.calm=true) (hm:X.mg "all" = none) (ha:FG X [e] t) (hg:Gl X "all" := by rfl) (he:starEach [e] X.env=(false,eval e X.env)::starEach [] X.env:=by rfl):dJ X (.Call (.Name "all" p) [e] [] pos) (cB allM t) :=
 cE (y1 (OZ hc) aBY PyProof.Rows.boot_all hg hm ha (by decide) (by decide) he (by rfl)) (HH fun ds d Q e q=>by
  unfold allM at e
  split at e
  ·obtain ⟨bs,eb,rfl⟩:=y9 e; exact ⟨bs,eb,q⟩
  ·cases e)
end
end L4
end
section
namespace L3
open PySem PySem.Spec PyProof.Rows L2
namespace Rv
end Rv
section
variable {prog:Program} {w:World} {A:Around} {E:Value->Shared->Prop} {s:Shared}
end
noncomputable def aQ5 (t:WA):WI:=fun ρ Q=>t ρ fun ds=>match ds with
 | [.lst ds]=>Q ds.reverse
 | [.tup ds]=>Q ds.reverse
 | _=>False
section
variable {X:Cx} {tg:Expr}
end
section
variable {prog:Program} {w:World} {A:Around} {E:Value->Shared->Prop} {s:Shared}
theorem HL {Q:List Value->Shared->Prop} {r:Addr} {a b c:Int} {t u v:Tok} {n:Nat} (hh:A.handled=none) (hr:IsRange s.heap r a b c t u v) (hsmall:Builtin.Range.small a b c=true) (hn:Builtin.Range.rangeSize a b c=n)
  (hlen:n<=2 ^ 24) (hQ:∀ h' tk acc,s.heap.objs.size<=h'.objs.size->(∀ b o,s.heap.get? b=some o->h'.get? b=some o)->ItemsOf (fun i v=>∃ t,v=.int (a+i*c) t) acc n->Q acc.toList { s with heap:=h',toks:=tk }):wpAny (model prog w) A (collect (.ref r)) Q E s:=by
 unfold collect
 apply wpAny_bind
 apply wpAny_runValue
 refine codeAny_builtin F.entry_proto_collect ?_
 rw [Around.under_plainId F.plain_proto_collect]
 wp_walk
 refine ⟨plainId_quiet F.plain_list_iadd _,codeAny_builtin F.entry_list_iadd ?_⟩
 rw [Around.under_plainId F.plain_list_iadd]
 refine wpAny_extend_range (R:=wants _ _) (s:={ s with heap:=s.heap.push { cls:=.type "list",data:=.seq #[] } }) hh (Heap.get?_push_of_some _ hr) hsmall hn hlen s.heap.objs.size (.ref s.heap.objs.size) _ (Heap.get?_push_size _ rfl) fun h' tk acc' c' hk hS' hacc=>?_
 apply wpAny_bind
 apply wpAny_load hS'
 exact wpAny_pure (hQ h' tk acc' (Nat.le_of_lt (Heap.lt_size hS')) (fun b o e=>hk b o (Nat.ne_of_lt (Heap.lt_size e)) (Heap.get?_push_of_some _ e)) hacc)
theorem HM {r:Addr} {a b c:Int} {t u v:Tok} {n:Nat} (hsmall:Builtin.Range.small a b c=true) (hn:Builtin.Range.rangeSize a b c=n) (hlen:n<=2 ^ 24):Meets (Builtin.«tuple.__new__» ⟨[.type "tuple",.ref r],[]⟩)
   (fun A R s=>A.handled=none/\IsRange s.heap r a b c t u v /\ ∀ (h':Heap) (tk:Nat) (acc:Array Value),s.heap.objs.size<=h'.objs.size->(∀ b o,s.heap.get? b=some o->h'.get? b=some o)->ItemsOf (fun i v=>∃ t,v=.int (a+i*c) t) acc n ->
    R (.ok (.ret (.ref h'.objs.size))) { s with heap:=h'.push { cls:=.type "tuple",data:=.seq acc },toks:=tk }) :=
 .of_wp fun prog w A R s h=>by
  obtain ⟨hh,hr,h⟩:=h
  have h1:=sub_tuple_self
  have h2:=init_tuple_lookup
  have h3:=madeHere_tuple
  wp_walk using wpAny_typeOf (T := "range") (v:=.ref r) ⟨_,hr,rfl⟩,HL (A:=A.in1) hh hr hsmall hn hlen
  intro h' tk acc hsz hk hacc
  have fits:acc.size<=sizeLine:=by rw [hacc.1,sizeLine_eq]; omega
  wp_walk
  simpa using h h' tk acc hsz hk hacc
theorem EX {Q:Value->Shared->Prop} {r:Addr} {a b c:Int} {t u v:Tok} {n:Nat} (hh:A.handled=none) (hr:IsRange s.heap r a b c t u v) (hsmall:Builtin.Range.small a b c=true) (hn:Builtin.Range.rangeSize a b c=n) (hlen:n<=2 ^ 24)
  (h:∀ (h':Heap) (tk:Nat) (acc:Array Value),s.heap.objs.size<=h'.objs.size->(∀ b o,s.heap.get? b=some o->h'.get? b=some o)->ItemsOf (fun i v=>∃ t,v=.int (a+i*c) t) acc n->Q (.ref h'.objs.size) { s with heap:=h'.push { cls:=.type "tuple",data:=.seq acc },toks:=tk }) :
  wpAny (model prog w) A (call (.type "tuple") [.ref r]) Q E s :=
 callType_new F.called_tuple (by decide) (F.typeCall_tuple_1 _) (F.newCall_tuple_1 _) (fun obj=>F.args_object_init_2 obj _) F.entry_tuple_new
  (HM hsmall hn hlen) ⟨hh,hr,fun h' tk acc hsz hk hacc=>⟨⟨_,Heap.get?_push_size _ rfl,rfl⟩,h h' tk acc hsz hk hacc⟩⟩
end
section
variable {X:Cx}
theorem qB (hc:X.calm=true):jA X (.type "tuple") (fun xs H Q=>∃ p i j,xs=[.ref p]/\H p=some (.rng i j) /\ -16777216<=i/\i<=16777216 /\ -16777216<=j/\j<=16777216/\j - i<=16777216 /\ ∀ l,H l=none->Q (.ref l) (upd H l (.tup ((nK i (j - i).toNat).map V.int)))):=by
 intro pins s σ H xs us Q I r h
 obtain ⟨p,i,j,rfl,hp,h0,h1,h2,h3,h4,q⟩:=h
 obtain ⟨u,rfl,ru⟩:=vals1 r
 cases ru
 obtain ⟨t,u,v,e⟩:=I.hok p _ hp
 have hsz:Builtin.Range.rangeSize i j 1=((j - i).toNat:Int):=by rw [rangeSize_one]; split<;>omega
 refine EX (a:=i) (b:=j) (c:=1) (n:=(j - i).toNat) (I.ok.hd hc) e (small_one (by omega) (by omega) (by omega) (by omega)) hsz (by omega) fun h' tk acc' hle kp hit=>?_
 have hv:Vals ((nK i (j - i).toNat).map V.int) acc'.toList:=mE hit
 have hfr:H h'.objs.size=none:=I.hok.fresh hle
 refine ⟨.ref h'.objs.size,_,I.laid (t':=tk) (o:=.tup ((nK i (j - i).toNat).map V.int)) (fun b o e=>Heap.get?_push_of_some _ (kp b o e)) hle ⟨?_,acc'.toList,hv,⟨_,Heap.get?_push_size _ rfl,rfl,_,rfl⟩⟩,rfl,q _ hfr⟩
 rw [List.length_map,n6,sizeLine_eq]
 omega
theorem O0 {a:Expr} {t:WA} {p pos p2 pos2:Pos} (hc:X.calm=true) (hm:X.mg "tuple" = none) (hmr:X.mg "range" = none) (ha:yV X [a] t) (hg:Gl X "tuple" := by rfl) (hgr:Gl X "range" := by rfl) (hs:starEach [a] X.env=[(false,eval a X.env)]:=by rfl)
  (he:starEach [.Call (.Name "range" p2) [a] [] pos2] X.env=(false,eval (.Call (.Name "range" p2) [a] [] pos2) X.env)::starEach [] X.env:=by rfl) :
  dO X (.Call (.Name "tuple" p) [.Call (.Name "range" p2) [a] [] pos2] [] pos) (fun ρ Q=>(t ρ fun ds=>match ds with | [.int j]=>(-16777216<=j/\j<=16777216)/\Q (.tup ((nK 0 j.toNat).map D.int)) | _=>False)) :=
 imp (pH (qB hc) hg hm PyProof.Rows.boot_tuple (jS (B6 hgr hmr ha hs) qW he) (by decide) (by decide) he (by rfl)) fun σ H Q aEH=>by
  obtain ⟨S,ρ,Q3,fc,sl,ht,k⟩:=aEH
  refine ⟨S,ρ,_,fc,sl,ht,fun vs H1 ds s1 d1 q1=>?_⟩
  split at q1
  ·rename_i j
   obtain ⟨v,r,rfl,h1,h2⟩:=d1.bW
   simp only [bA] at h2
   subst h2
   simp only [Dn] at h1
   subst h1
   refine ⟨j,rfl,fun p hp=>⟨p,0,j,rfl,bJ,by omega,by omega,q1.1.1,q1.1.2,by have:=q1.1.2; omega,fun l hl=>?_⟩⟩
   have hl1:H1 l=none:=(aY hp).free hl
   rw [Int.sub_zero]
   refine k _ _ _ ((s1.trans (aY hp)).trans (aY hl)) ?_ q1.2
   simp only [Dn]
   exact ⟨l,_,rfl,bJ,bA.ints.mpr rfl⟩
  ·exact q1.elim
theorem O1 {a b:Expr} {ta:TA} {p pos:Pos} (hg:Gl X "range") (hm:X.mg "range" = none) (ha:PA X [a,b] ta) (hs:starEach [a,b] X.env=[(false,eval a X.env),(false,eval b X.env)]:=by rfl) (hs2:starEach [b] X.env=[(false,eval b X.env)]:=by rfl) :
  PE X (.Call (.Name "range" p) [a,b] [] pos) (fun σ H Q=>ta σ H fun vs H1=>∃ i j:Int,vs=[.int i,.int j] /\ ∀ p,H1 p=none->Q (.ref p) (upd H1 p (.rng i j))):=by
 intro pins s σ H Q I h
 refine Call_ (m7 I hg hm PyProof.Rows.boot_range (PyProof.Rows.callWith_type1 (fB (ha pos pins s σ H _ I h) fun us s1 ⟨vs,H1,I1,r1,q1⟩=>?_) (by rw [hs,hs2]) (by rw [hs2]; rfl)))
 obtain ⟨i,j,e,q⟩:=q1
 subst e
 obtain ⟨u,u2,rfl,ru,ru2⟩:=vals2 r1
 obtain ⟨t,rfl⟩:=ru
 obtain ⟨t2,rfl⟩:=ru2
 refine call_range_2 ?_
 exact ⟨.ref s1.heap.objs.size,_,I1.laid (o:=.rng i j) (fun b o e=>Heap.get?_push_of_some _ e) (Nat.le_refl _) ⟨_,_,_,Heap.get?_push_size _ rfl⟩,rfl,q _ (I1.hok.fresh (Nat.le_refl _))⟩
theorem KJ {a b:Expr} {t:WA} {p pos p2 pos2:Pos} (hc:X.calm=true) (hm:X.mg "tuple" = none) (hmr:X.mg "range" = none) (ha:yV X [a,b] t) (hg:Gl X "tuple" := by rfl) (hgr:Gl X "range" := by rfl) (hs:starEach [a,b] X.env=[(false,eval a X.env),(false,eval b X.env)]:=by rfl) (hs2:starEach [b] X.env=[(false,eval b X.env)]:=by rfl)
  (he:starEach [.Call (.Name "range" p2) [a,b] [] pos2] X.env=(false,eval (.Call (.Name "range" p2) [a,b] [] pos2) X.env)::starEach [] X.env:=by rfl) :
  dO X (.Call (.Name "tuple" p) [.Call (.Name "range" p2) [a,b] [] pos2] [] pos) (fun ρ Q=>(t ρ fun ds=>match ds with | [.int i,.int j]=>(-8388608<=i/\i<=8388608 /\ -8388608<=j/\j<=8388608)/\Q (.tup ((nK i (j - i).toNat).map D.int)) | _=>False)) :=
 imp (pH (qB hc) hg hm PyProof.Rows.boot_tuple (jS (O1 hgr hmr ha hs hs2) qW he) (by decide) (by decide) he (by rfl)) fun σ H Q aEI=>by
  obtain ⟨S,ρ,Q3,fc,sl,ht,k⟩:=aEI
  refine ⟨S,ρ,_,fc,sl,ht,fun vs H1 ds s1 d1 q1=>?_⟩
  split at q1
  ·rename_i i j
   obtain ⟨v,r,rfl,h1,h2⟩:=d1.bW
   obtain ⟨v2,r2,rfl,h3,h2⟩:=h2.bW
   simp only [bA] at h2
   subst h2
   simp only [Dn] at h1 h3
   subst h1 h3
   refine ⟨i,j,rfl,fun p hp=>⟨p,i,j,rfl,bJ,by have:=q1.1; omega,by have:=q1.1; omega,by have:=q1.1; omega,by have:=q1.1; omega,by have:=q1.1; omega,fun l hl=>?_⟩⟩
   have hl1:H1 l=none:=(aY hp).free hl
   refine k _ _ _ ((s1.trans (aY hp)).trans (aY hl)) ?_ q1.2
   simp only [Dn]
   exact ⟨l,_,rfl,bJ,bA.ints.mpr rfl⟩
  ·exact q1.elim
end
end L3
namespace L4
open PySem PySem.Spec PyProof.Rows L2 L3
section
variable {X:Cx} {tg:Expr}
theorem HN {a:Expr} {fa:EF} {p pos p2 pos2:Pos} (hc:X.calm=true) (hm:X.mg "tuple" = none) (hmr:X.mg "range" = none) (ha:dJ X a fa) (hg:Gl X "tuple" := by rfl) (hgr:Gl X "range" := by rfl) (hs:starEach [a] X.env=[(false,eval a X.env)]:=by rfl)
  (he:starEach [.Call (.Name "range" p2) [a] [] pos2] X.env=(false,eval (.Call (.Name "range" p2) [a] [] pos2) X.env)::starEach [] X.env:=by rfl) :
  dJ X (.Call (.Name "tuple" p) [.Call (.Name "range" p2) [a] [] pos2] [] pos) (uH (aA fa aC)):=cE (O0 hc hm hmr (aF ha aL hs) hg hgr hs he) fun ρ Q aEJ=>by
 obtain ⟨d,e,q⟩:=aEJ
 obtain ⟨ds,ed,e⟩:=bnd e
 refine ⟨ds,ed,?_⟩
 obtain ⟨a,ha',rfl⟩:=KC ed
 split at e
 ·rename_i j hj
  cases hj
  by_cases h:j.natAbs<=16777216
  ·rw [if_pos h] at e; cases e; exact ⟨⟨by omega,by omega⟩,q⟩
  ·rw [if_neg h] at e; cases e
 ·rename_i hj; cases hj
 ·cases e
theorem EY {a b:Expr} {fa fb:EF} {p pos p2 pos2:Pos} (hc:X.calm=true) (hm:X.mg "tuple" = none) (hmr:X.mg "range" = none) (ha:dJ X a fa) (hb:dJ X b fb) (hg:Gl X "tuple" := by rfl) (hgr:Gl X "range" := by rfl) (hs:starEach [a,b] X.env=[(false,eval a X.env),(false,eval b X.env)]:=by rfl) (hs2:starEach [b] X.env=[(false,eval b X.env)]:=by rfl)
  (he:starEach [.Call (.Name "range" p2) [a,b] [] pos2] X.env=(false,eval (.Call (.Name "range" p2) [a,b] [] pos2) X.env)::starEach [] X.env:=by rfl) :
  dJ X (.Call (.Name "tuple" p) [.Call (.Name "range" p2) [a,b] [] pos2] [] pos) (uH (aA fa (aA fb aC))):=cE (KJ hc hm hmr (aF ha (aF hb aL hs2) (by rw [hs,hs2])) hg hgr hs hs2 he) fun ρ Q aEK=>by
 obtain ⟨d,e,q⟩:=aEK
 obtain ⟨ds,ed,e⟩:=bnd e
 refine ⟨ds,ed,?_⟩
 obtain ⟨a,b,ha',hb',rfl⟩:=UC ed
 split at e
 ·rename_i hj; cases hj
 ·rename_i i j hj
  cases hj
  by_cases h:i.natAbs<=8388608/\j.natAbs<=8388608
  ·rw [if_pos h] at e; cases e; exact ⟨⟨by omega,by omega,by omega,by omega⟩,q⟩
  ·rw [if_neg h] at e; cases e
 ·cases e
noncomputable def EL:F1
 | [.int i],Q=>Q (.int i)
 | [.bl b],Q=>Q (.int (if b=true then 1 else 0))
 | _,_=>False
theorem aB0 {K:PySem.W.Frag}:C3 K (fun xs H Q=>(∃ i,xs=[.int i]/\Q (.int i) H) \/ ∃ k,xs=[.bl k]/\Q (.int (if k then 1 else 0)) H) EL:=by
 intro S H xs ds Q3 Q fc hd hf k
 match ds,hf with
 | [.int i],hf =>
  obtain ⟨v,r,rfl,h1,h2⟩:=hd.bW
  simp only [bA] at h2
  subst h2
  simp only [Dn] at h1
  subst h1
  exact .inl ⟨i,rfl,k _ H _ (Same.refl H) (by simp only [Dn]) hf⟩
 | [.bl b],hf =>
  obtain ⟨v,r,rfl,h1,h2⟩:=hd.bW
  simp only [bA] at h2
  subst h2
  simp only [Dn] at h1
  subst h1
  exact .inr ⟨b,rfl,k _ H _ (Same.refl H) (by simp only [Dn]) hf⟩
theorem HP:n9 EL qG:=fun ds d Q e q=>by
 cases ds with
 | nil=>cases e
 | cons a ds =>
  cases a<;>first | (cases e; done) | skip
  all_goals (cases ds<;>first | (cases e; exact q) | (cases e; done))
theorem aEL {p pos:Pos} {e:Expr} {t:AF} (hc:X.calm=true) (hm:X.mg "int" = none) (ha:FG X [e] t) (hg:Gl X "int" := by rfl) (he:starEach [e] X.env=(false,eval e X.env)::starEach [] X.env:=by rfl):dJ X (.Call (.Name "int" p) [e] [] pos) (cB qG t):=cE (MU N2 aB0 PyProof.Rows.boot_int hg hm ha (by decide) (by decide) he (by rfl)) (HH HP)
end
end L4
end
section
namespace L4
open PySem PySem.Spec PyProof.Rows L2 L3 PySem.W
section
variable {lt:Nat->Nat->Bool}
structure aEM (lt:Nat->Nat->Bool):Prop where
 as:∀ a b,lt a b=true->lt b a=false
 tr:∀ a b c,lt b a=false->lt c b=false->lt c a=false
theorem aEM.irr (O:aEM lt) (x:Nat):lt x x=false:=by
 cases hb:lt x x with
 | false=>rfl
 | true=>have:=O.as _ _ hb; rw [hb] at this; exact this
theorem X8 {p:Array Nat} {i:Nat}:p.getD i 0=(p[i]?).getD 0:=by
 rw [Array.getD_eq_getD_getElem?]
end
end L4
end
section
namespace L4
open PySem PySem.Spec PyProof.Rows L2 L3 PySem.W Att
section
variable {prog:Program} {w:World} {A:Around} {s:Shared} {Q:Bool->Shared->Prop}
end
noncomputable def Rg (n:Nat) (p:Array Nat):Prop:=p.Perm (List.toArray (List.range n))
theorem Rg.lt {n:Nat} {p:Array Nat} (h:Rg n p) (h1:1<=n) (k:Nat):p.getD k 0<n:=by
 rw [X8]
 cases q:p[k]? with
 | none=>exact h1
 | some x =>
  have:x∈p:=Array.mem_of_getElem? q
  have:=h.mem_iff.mp this
  simpa using this
section
variable {n:Nat}
end
section
variable {X:Cx}
end
end L4
end
section
namespace L4
open PySem PySem.Spec PyProof.Rows L2 L3
section
variable {X:Cx}
end
end L4
end
section
namespace L4
open PySem PySem.Spec PyProof.Rows L2 L3 PySem.SeqAt
section
variable {X:Cx} {pins:List (Addr×Obj)} {σ:L2.St} {H:Hp} {s:Shared} {S:Addr->Prop}
open Classical in
end
end L4
end
section
namespace L4
open PySem PySem.Spec PyProof.Rows L2 L3
section
variable {X:Cx}
theorem ZC (i:Nat) {st:Stmt} {f:SF} (h:y7 X st f):y7 X st (P7 i f) :=
 nJ h fun B σ H aEN=>by obtain ⟨H₀,S,w,ρ,G,E,hl,st,ht,ok⟩:=aEN; exact ⟨H₀,S,w,freeze ρ i,G,E,hl,st.frozen,ht,ok⟩
end
end L4
end
section
namespace L5
open PySem PySem.Spec PyProof.Rows L2 L3 L4
section
variable {X:Cx} {pins:List (Addr×Obj)} {σ:L2.St} {H:Hp} {s:Shared} {h':Heap} {e:Addr} {cls a0:Value} {P:List Addr}
end
section
variable {P:Program} {w:World} {K:PySem.W.Frag} {mg:Str->Option Value} {base:Heap} {N:List Str} {qual:Str} {scope:Scope} {f:Addr} {cd:Value} {A:Around} {outer:List Env} {s0:Shared} {H0:Hp} {E:XK}
end
section
variable {X:Cx} {k:Nat} {f:Addr} {fd:FuncData} {ps:List Str} {R:gH} {x:Str} {p pos:Pos} {e:Expr} {es:List Expr} {t:AF}
end
section
variable {X:Cx}
end
end L5
end
section
namespace L5
open PySem PySem.Spec PyProof.Rows L2 L3 L4 PySem.W Builtin.ObjectAttr Builtin.Getset_descriptor
structure aQ6 (K:PySem.W.Frag) (C:Addr):Prop where
 hc:isClsIn K C=true
 hm:mroIn K C (.type "object")=some true
 hs:subIn K (.ref C) (.type "BaseException")=some true
 hga:findIn K (.ref C) "__getattribute__" = some (some (.builtin "BaseException.__getattribute__"))
 hgg:findIn K (.ref C) "__getattr__" = some none
 ha:findIn K (.ref C) "__class__" = some (some (.builtin "object.__class__"))
 hn:specialIn K (.builtin "object.__class__") "__get__" = some (some (.builtin "getset_descriptor.__get__"))
 ht:takesIn K (.builtin "object.__class__")=some true
section
variable {prog:Program} {w:World} {A:Around} {E:Value->Shared->Prop} {s:Shared} {K:PySem.W.Frag} {a C:Addr}
end
end L5
end
section
namespace L5
open PySem PySem.Spec PyProof.Rows L2 L3 L4
section
variable {X:Cx}
end
section
variable {X:Cx} {pins:List (Addr×Obj)} {σ:L2.St} {H:Hp} {s:Shared}
end
section
variable {X:Cx}
end
section
variable {X:Cx}
theorem O2 (hc:X.calm=true):jA X (.builtin "min") (fun xs H Q=>∃ a b,xs=[.int a,.int b]/\Q (.int (if b<a then b else a)) H):=by
 intro pins s σ H xs us Q I r h
 obtain ⟨a,b,rfl,q⟩:=h
 obtain ⟨u1,u2,rfl,⟨t1,rfl⟩,⟨t2,rfl⟩⟩:=vals2 r
 refine min_two_ints (I.ok.hd hc) fun h' tk hk=>⟨_,H,I.kept hk,?_,q⟩
 by_cases z:b<a
 ·rw [if_pos z,if_pos z]; exact ⟨_,rfl⟩
 ·rw [if_neg z,if_neg z]; exact ⟨_,rfl⟩
theorem O5 (hc:X.calm=true):jA X (.builtin "max") (fun xs H Q=>∃ a b,xs=[.int a,.int b]/\Q (.int (if b>a then b else a)) H):=by
 intro pins s σ H xs us Q I r h
 obtain ⟨a,b,rfl,q⟩:=h
 obtain ⟨u1,u2,rfl,⟨t1,rfl⟩,⟨t2,rfl⟩⟩:=vals2 r
 refine max_two_ints (I.ok.hd hc) fun h' tk hk=>⟨_,H,I.kept hk,?_,q⟩
 by_cases z:b>a
 ·rw [if_pos z,if_pos z]; exact ⟨_,rfl⟩
 ·rw [if_neg z,if_neg z]; exact ⟨_,rfl⟩
noncomputable def UF (g:Int->Int->Int):F1
 | [.int a,.int b],Q=>Q (.int (g a b))
 | _,_=>False
theorem MZ {K:PySem.W.Frag} {g:Int->Int->Int}:C3 K (fun xs H Q=>∃ a b,xs=[.int a,.int b]/\Q (.int (g a b)) H) (UF g):=by
 intro S H xs ds Q3 Q fc hd hf k
 match ds,hf with
 | [.int a,.int b],hf =>
  obtain ⟨v,r,rfl,h1,h2⟩:=hd.bW
  obtain ⟨v2,r2,rfl,h3,h4⟩:=h2.bW
  simp only [bA] at h4
  subst h4
  simp only [Dn] at h1 h3
  subst h1 h3
  exact ⟨a,b,rfl,k _ H _ (Same.refl H) (by simp only [Dn]) hf⟩
theorem KL:n9 (UF fun a b=>if b<a then b else a) FM:=fun ds d Q e q=>by
 unfold FM at e
 split at e
 ·cases e; exact q
 ·cases e
theorem KM:n9 (UF fun a b=>if b>a then b else a) p6:=fun ds d Q e q=>by
 unfold p6 at e
 split at e
 ·cases e; exact q
 ·cases e
theorem aEO {p pos:Pos} {a b:Expr} {t:AF} (hc:X.calm=true) (hm:X.mg "min" = none) (ha:FG X [a,b] t) (hg:Gl X "min" := by rfl) (he:starEach [a,b] X.env=(false,eval a X.env)::starEach [b] X.env:=by rfl) (hpl:(backTo pos (starEach [b] X.env)).any (·.1)=false:=by rfl):dJ X (.Call (.Name "min" p) [a,b] [] pos) (cB FM t) :=
 cE (y1 (O2 hc) MZ PyProof.Rows.boot_min hg hm ha (by decide) (by decide) he hpl) (HH KL)
theorem UG {p pos:Pos} {a b:Expr} {t:AF} (hc:X.calm=true) (hm:X.mg "max" = none) (ha:FG X [a,b] t) (hg:Gl X "max" := by rfl) (he:starEach [a,b] X.env=(false,eval a X.env)::starEach [b] X.env:=by rfl) (hpl:(backTo pos (starEach [b] X.env)).any (·.1)=false:=by rfl):dJ X (.Call (.Name "max" p) [a,b] [] pos) (cB p6 t) :=
 cE (y1 (O5 hc) MZ PyProof.Rows.boot_max hg hm ha (by decide) (by decide) he hpl) (HH KM)
end
end L5
end
section
namespace L5
open PySem PySem.Spec PyProof.Rows L2 L3 L4 PySem.W
variable {K:PySem.W.Frag} {C D:Addr}
structure UH (K:PySem.W.Frag) (C D:Addr):Prop where
 ne:(Value.ref C == Value.ref D)=false
 c:isClsIn K D=true
 t:typeIn K (.ref D)=some (.type "type")
 s:subIn K (.ref C) (.ref D)=some false
theorem O6 {t:Value} {b:Bool} (c:isClsIn K D=true) (ht:typeIn K (.ref D)=some (.type "type")) (s:subIn K t (.ref D)=some b):kitCls K t (.ref D)=some b:=by
 have c:(clsIn K D).isSome=true:=c
 unfold kitCls
 dsimp only
 rw [c,ht,if_pos (by decide)]
 exact s
theorem UH.one (n:UH K C D):kitOne K (.ref C) (.ref D)=some false:=by
 unfold kitOne
 rw [n.ne,if_neg Bool.false_ne_true]
 exact O6 n.c n.t n.s
end L5
end
section
namespace L5
open PySem PySem.Spec PyProof.Rows L2 L3 L4
section
variable {X:Cx}
end
end L5
end
section
namespace L5
open PySem PySem.Spec PyProof.Rows L2 L3 L4 Att
section
variable {X:Cx} {pins:List (Addr×Obj)} {σ:L2.St} {H:Hp} {s:Shared}
end
end L5
end
section
namespace L5
open PySem PySem.Spec PyProof.Rows L2 L3 L4
section
variable {X:Cx}
noncomputable def aEP:F2
 | .lst a,.int n,Q=>a.length*n.toNat<=sizeLine /\ -(2 ^ 63)<=n/\n<2 ^ 63/\Q (.lst (List.replicate n.toNat a).flatten)
 | _,_,_=>False
theorem M0 {K:PySem.W.Frag} {S:Addr->Prop} {H:Hp} {ds:List D} {xs:List V} (h:bA K S H ds xs):∀ n:Nat,bA K S H (List.replicate n ds).flatten (List.replicate n xs).flatten
 | 0=>bA.nil
 | n+1=>by
  rw [List.replicate_succ,List.replicate_succ,List.flatten_cons,List.flatten_cons]
  exact h.append (M0 h n)
theorem rep3 {a b:Expr} {pos:Pos} {ta tb:WE} (ha:dO X a ta) (hb:dO X b tb):JX X (.BinOp a .Mult b pos) (iQ aEP ta tb):=imp (R5 aAf ha hb) fun σ H Q h=>by
 obtain ⟨S,ρ,Q3,fc,sl,ht,k⟩:=h
 refine ⟨S,ρ,_,fc,sl,ht,fun v H1 d s1 d1 q1=>?_⟩
 refine ⟨S,ρ,_,bZ fc s1,Sl.fits (.same s1) sl,q1,fun u H2 d2 s2 d2' q2=>?_⟩
 cases d<;>cases d2<;>try exact q2.elim
 rename_i ds n
 simp only [Dn] at d1 d2'
 obtain ⟨a,xs,rfl,ha,sa,da⟩:=d1
 subst d2'
 have da':=bA.fits (.same s2) _ _ da
 obtain ⟨z1,z2,z3,q3⟩:=q2
 refine ⟨a,n,xs,rfl,rfl,s2 _ _ ha,z2,z3,by rw [<- da.len]; exact z1,fun p hp=>k p _ _ _ ((s1.trans s2).free hp) bJ ((s1.trans s2).trans (aY hp)) ?_ q3⟩
 exact bA.fits ((Fits.fresh hp).trans (.same (aY hp))) _ _ (M0 da' _)
theorem O7:Tells aEP repLM:=fun x y d Q e q=>by
 cases x<;>first | (cases e; done) | skip
 cases y<;>first | (cases e; done) | skip
 rename_i a n
 have e:(if a.length*n.toNat<=tD/\n.natAbs<9223372036854775808 then some (D.lst (List.replicate n.toNat a).flatten) else none)=some d:=e
 by_cases h:a.length*n.toNat<=tD/\n.natAbs<9223372036854775808
 ·rw [if_pos h] at e
  cases e
  exact ⟨by rw [sizeLine_eq]; exact h.1,by have:=h.2; omega,by have:=h.2; omega,q⟩
 ·rw [if_neg h] at e; cases e
theorem UI {a b:Expr} {fa fb:EF} {pos:Pos} (ha:dJ X a fa) (hb:dJ X b fb):nD X (.BinOp a .Mult b pos) (aE repLM fa fb):=cF (rep3 ha hb) (lD O7)
end
section
variable {X:Cx}
section
variable {ls fs:List Str} {fr:List Nat} {sc:Scope} {tg iter elt:Expr} {ifs:List Expr} {pos:Pos} {i:Nat} {x:Str} {spos pos':Pos}
variable {it:AF} {g:IN} {t:TF} {e:EF}
end
end
section
variable {X:Cx}
end
end L5
end
section
namespace L6
open PySem PySem.Spec PyProof.Rows
section
variable {prog:Program} {w:World} {A:Around} {E:Value->Shared->Prop} {s:Shared}
theorem stored {a:Addr} {o:Obj} {es es':Array (Int×Value)} {ep:Nat} {t t':SetTable} (ho:s.heap.get? a=some o) (hd:o.data=.set es ep t) :
  (s.heap.update a (Obj.putSet es' t')).get? a=some { o with data:=.set es' (ep+1) t' }:=by
 have q:=Heap.get?_update_self (Obj.putSet es' t') ho (by rw [putSet_of es' t' hd]; rfl)
 rwa [putSet_of es' t' hd] at q
end
section
variable {prog:Program} {w:World} {A:Around} {E:Value->Shared->Prop} {s:Shared}
end
namespace Si
end Si
section
variable {prog:Program} {w:World} {A:Around} {E:Value->Shared->Prop} {s:Shared}
end
end L6
end
section
namespace L6
open PySem PySem.Spec PyProof.Rows
section
variable {prog:Program} {w:World} {A:Around} {E:Value->Shared->Prop} {s:Shared}
end
section
variable {prog:Program} {w:World} {A:Around} {E:Value->Shared->Prop} {s:Shared}
end
section
variable {prog:Program} {w:World} {A:Around} {E:Value->Shared->Prop} {s:Shared}
end
end L6
end
section
namespace L6
open PySem PySem.Spec PyProof.Rows L2 L3 L4
section
variable {X:Cx}
end
section
variable {X:Cx}
end
section
variable {prog:Program} {w:World} {A:Around} {E:Value->Shared->Prop} {s:Shared}
end
section
variable {X:Cx}
end
theorem HQ {prog:Program} {w:World} {A:Around} {E:Value->Shared->Prop} {s:Shared} {t:Addr} {its:List Value} {Q:List Value->Shared->Prop} (ht:IsTup s.heap t its.toArray) (hz:its.length<=sizeLine)
  (h:∀ h',s.heap.objs.size<=h'.objs.size->(∀ b u,s.heap.get? b=some u->h'.get? b=some u)->Q its { s with heap:=h' }):wpAny (model prog w) A (collect (.ref t)) Q E s:=by
 obtain ⟨ot,hot,hct,nt,hdt⟩:=id ht
 unfold collect
 apply wpAny_bind
 apply wpAny_runValue
 refine codeAny_builtin F.entry_proto_collect ?_
 rw [Around.under_plainId F.plain_proto_collect]
 wp_walk
 refine ⟨plainId_quiet F.plain_list_iadd _,codeAny_builtin F.entry_list_iadd ?_⟩
 rw [Around.under_plainId F.plain_list_iadd]
 have g0:(s.heap.push { cls:=.type "list",data:=.seq #[] }).get? s.heap.objs.size=some { cls:=.type "list",data:=.seq #[] 0 }:=Heap.get?_push_size _ rfl
 refine wpAny_extend_seq (R:=wants _ _) (s:={ s with heap:=s.heap.push { cls:=.type "list",data:=.seq #[] } }) s.heap.objs.size t _ 0 (.inr rfl) g0 (Heap.get?_push_of_some _ hot) hct hdt ?_ (by simpa using hz)
 have g1:=Heap.get?_update_self (Obj.mapSeq (· ++ its.toArray)) g0 rfl
 apply wpAny_bind
 apply wpAny_load g1
 have fin:=h ((s.heap.push { cls:=.type "list",data:=.seq #[] }).update s.heap.objs.size (Obj.mapSeq (· ++ its.toArray))) (Nat.le_of_lt (Heap.lt_size g1)) fun b u e=>(Heap.get?_update_other _ _ (Nat.ne_of_gt (Heap.lt_size e))).trans (Heap.get?_push_of_some _ e)
 refine wpAny_pure ?_
 simpa using fin
theorem KN {prog:Program} {w:World} {A:Around} {E:Value->Shared->Prop} {s:Shared} {t:Addr} {its:List Value} {ns:List Int} {Q:Value->Shared->Prop} (ht:IsTup s.heap t its.toArray) (hv:IntsAre its ns) (h64:ns.length<64)
  (h:∀ h' tk l out ns' e,(∀ b u,s.heap.get? b=some u->h'.get? b=some u)->s.heap.objs.size<=l->IntsAre out ns'->ns'.Perm ns->ns'.Pairwise (· <= ·)->h'.get? l=some (seqObj "list" out.toArray e)->Q (.ref l) { s with heap:=h',toks:=tk }) :
  wpAny (model prog w) A (call (.builtin "sorted") [.ref t]) Q E s:=by
 have lv:its.length<64:=by rw [IntsAre.length hv]; exact h64
 apply Calls.call_function_entry kind_sorted plain_sorted entry_sorted (args_sorted1 _)
 unfold Builtin.«sorted»
 refine wpAny_bind (m:=checkCount "sorted" 1 1 _) (wpAny_pure (wpAny_bind (HQ (A:=A.in1) ht (by rw [sizeLine_eq]; omega) fun h1 l1 keep=>?_)))
 apply wpAny_bind; refine wpAny_newList ?_ (by rw [sizeLine_eq]; omega)
 have g1:(h1.push (seqObj "list" its.toArray 0)).get? h1.objs.size=some (seqObj "list" its.toArray 0):=Heap.get?_push_size _ rfl
 refine wpAny_bind (wpAny_holding (wpAny_call_entry slot_list_sort ⟨_,g1,rfl⟩ entry_list_sort (list_sort_tree g1 hv lv fun out ns' a1 a2 a3=>⟨_,rfl,?_⟩) (args_list_sort _)))
 obtain ⟨e,g2⟩:=sortedHeap_at (out:=out) g1
 refine wpAny_pure ⟨_,rfl,h _ s.toks _ out.toList ns' e (fun b u q=>?_) l1 a1 a2 a3 (by simpa using g2)⟩
 have lb:=Heap.lt_size (keep b u q)
 rw [sortedHeap_old (Nat.ne_of_lt lb) (by rw [Heap.size_push]; exact Nat.lt_succ_of_lt lb)]
 exact Heap.get?_push_of_some _ (keep b u q)
section
variable {X:Cx}
noncomputable def aB1 (K:PySem.W.Frag):List V->Hp->VK->Prop:=fun xs H Q=>∃ (a:Addr) (ns:List Int),xs=[.ref a]/\iP K H a (ns.map V.int)/\ns.length<64 /\ ∀ ns':List Int,ns'.Perm ns->ns'.Pairwise (· <= ·) -> ∀ p,H p=none->Q (.ref p) (upd H p (.lst (ns'.map V.int)))
theorem KO:jA X (.builtin "sorted") (aB1 X.K):=by
 intro pins s σ H xs us Q I r h
 obtain ⟨a,ns,rfl,ha,h64,q⟩:=h
 obtain ⟨u,rfl,ru⟩:=vals1 r
 cases ru
 obtain ⟨its,rv,pl,hz⟩:=I.tuple ha
 refine KN pl (intsAre_of rv) h64 fun h' tk l out ns' e keep hl a1 a2 a3 g=>?_
 have hz2:ns'.length<=sizeLine:=by rw [a2.length_eq,sizeLine_eq]; omega
 have I1:=I.laid (t':=tk) (a:=l) (o:=.lst (ns'.map V.int)) keep hl ⟨by rw [List.length_map]; exact hz2,out,e,pI a1,by simpa [seqObj] using g⟩
 exact ⟨.ref l,_,I1,rfl,q ns' a2 a3 l (I.hok.fresh hl)⟩
theorem UJ {p pos:Pos} {e:Expr} {t:AF} (hm:X.mg "sorted" = none) (ha:FG X [e] t) (hg:Gl X "sorted" := by rfl) (he:starEach [e] X.env=(false,eval e X.env)::starEach [] X.env:=by rfl) :
  nD X (.Call (.Name "sorted" p) [e] [] pos) (cB nP t) :=
 imp (sH KO hg hm PyProof.Rows.boot_sorted ha (by decide) (by decide) he (by rfl)) fun σ H Q aEQ=>by
  obtain ⟨S,ρ,Q3,fc,sl,⟨d,ed,q3⟩,k⟩:=aEQ
  obtain ⟨ds,eds,ed⟩:=bnd ed
  refine ⟨S,ρ,fun es=>es=ds,fc,sl,⟨_,eds,rfl⟩,fun vs H1 es s1 d1 q1=>?_⟩
  subst q1
  unfold nP at ed
  split at ed
  ·rename_i a
   obtain ⟨ns,e1,ed⟩:=bnd ed
   by_cases hl:ns.length<64
   ·rw [if_pos hl] at ed
    cases ed
    rw [ints_of e1] at d1
    obtain ⟨v,r,rfl,h1,h2⟩:=d1.bW
    simp only [bA] at h2
    subst h2
    simp only [Dn] at h1
    obtain ⟨t1,xs,rfl,ht,dt⟩:=h1
    rw [bA.ints.mp dt] at ht
    refine ⟨t1,ns,rfl,iP.of ht,hl,fun ns' pm so l hl2=>?_⟩
    have e3:ns' = sortI ns:=rA (pm.trans (oA _).symm) so (lU _)
    subst e3
    exact k l _ _ _ (s1.free hl2) bJ (s1.trans (aY hl2)) (bA.ints.mpr rfl) q3
   ·rw [if_neg hl] at ed; cases ed
  ·cases ed
end
end L6
end
section
namespace L7
open PySem PySem.Spec PyProof.Rows L2 L3 L4 LL
noncomputable def kI (ns:List Int):List Key:=ns.map Sum.inl
theorem aER (ns:List Int):(kI ns).map kV=ns.map V.int:=by
 unfold kI
 rw [List.map_map]
 rfl
theorem UK:∀ {a b:List Int},kI a=kI b->a=b
 | [],[],_=>rfl
 | [],_::_,h=>by cases h
 | _::_,[],h=>by cases h
 | x::a,y::b,h=>by
  unfold kI at h
  rw [List.map_cons,List.map_cons] at h
  injection h with h1 h2
  injection h1 with h1
  rw [h1,UK h2]
section
variable (rd:List Int->List (List Int))
noncomputable def Memo (n:Nat) (kvs:List (List Key×V)):Prop:=∀ k v,lQ kvs k=some v -> ∃ ns:List Int,k=kI ns/\v=.int (Wf rd (n - ns.length) ns)
theorem Memo.at {rd:List Int->List (List Int)} {n:Nat} {kvs:List (List Key×V)} (h:Memo rd n kvs) {a:List Int} {v:V} (e:lQ kvs (kI a)=some v):v=.int (Wf rd (n - a.length) a):=by
 obtain ⟨ns,e1,e2⟩:=h _ _ e
 rw [UK e1]
 exact e2
noncomputable def But (p:Addr) (H H':Hp):Prop:=∀ b o,b≠p->H b=some o->H' b=some o
theorem But.trans {p:Addr} {H H1 H2:Hp} (a:But p H H1) (b:But p H1 H2):But p H H2:=fun c o n h=>b c o n (a c o n h)
theorem But.upd {p:Addr} {H:Hp} {o:HO}:But p H (upd H p o):=fun c q n h=>by rw [cC n]; exact h
noncomputable abbrev All:Addr->Prop:=fun _=>True
end
noncomputable def At (K:PySem.W.Frag) (x:List (List Int)) (a:List Int) (p:Addr) (σ:L2.St) (H:Hp):Prop :=
 ∃ vo va,σ[0]? = some (some vo)/\Dn K All H (aV x) vo/\σ[1]? = some (some va)/\Dn K All H (tupI a) va/\σ[2]? = some (some (.ref p))
theorem At.key {K:PySem.W.Frag} {x:List (List Int)} {a:List Int} {p:Addr} {σ:L2.St} {H:Hp} (h:At K x a p σ H):∃ b,σ[1]? = some (some (.ref b))/\H b=some (.tup ((kI a).map kV)):=by
 obtain ⟨vo,va,h1,h2,h3,h4,h5⟩:=h
 unfold tupI at h4
 simp only [Dn] at h4
 obtain ⟨b,ys,rfl,hb,db⟩:=h4
 rw [bA.ints.mp db] at hb
 exact ⟨b,h3,by rw [aER]; exact hb⟩
section
variable {K:PySem.W.Frag} {rd:List Int->List (List Int)} {x:List (List Int)} {Ok:List Int->Prop} {a:List Int} {p:Addr} {σ:L2.St} {H:Hp} {kvs:List (List Key×V)}
structure Parts (K:PySem.W.Frag) (rd:List Int->List (List Int)) (x:List (List Int)) (a:List Int) (C1:TT) (T1:TE) (T3:TS):Prop where
 c1:∀ p σ H Q,At K x a p σ H->(∀ H',Same H H'->Q (decide (a.length=x.length)) H')->C1 σ H Q
 t1:∀ σ H (Q:VK),(∀ H',Same H H'->Q (.int 1) H')->T1 σ H Q
 t3:∀ p (D:Ends) σ H,σ.length=4->At K x a p σ H->a.length<x.length->(∀ (σ':L2.St) (H':Hp) (l:Addr) (ps:List Addr),Same H H'->At K x a p σ' H'->σ'[3]? = some (some (.ref l))->H' l=some (.lst (ps.map V.ref))->ps.length=(rd a).length ->
  (∀ (i:Nat) (q:Addr) (b:List Int),ps[i]? = some q->(rd a)[i]? = some b->H' q=some (.tup (b.map V.int)))->D.nx σ' H')->T3 D σ H
end
section
variable {K:PySem.W.Frag} {rd:List Int->List (List Int)} {x:List (List Int)} {Ok:List Int->Prop} {a:List Int} {p:Addr} {σ:L2.St} {H:Hp} {kvs:List (List Key×V)}
end
end L7
end
section
namespace L7
open PySem PySem.Spec PyProof.Rows
section
variable {prog:Program} {w:World} {A:Around} {E:Value->Shared->Prop} {s:Shared} {d it:Addr} {o:Obj} {es:Array DictEntry} {ep i:Nat}
end
end L7
end
section
namespace L8
open PySem PySem.Spec PyProof.Rows L2
noncomputable def iD (kvs:List (KX×V×V)) (k:KX):Option V:=(kvs.find? fun p=>decide (p.1=k)).map (·.2.2)
noncomputable def gC (kvs:List (KX×V×V)) (k:KX) (y v:V):List (KX×V×V):=if kvs.any (fun p=>decide (p.1=k))=true then kvs.map (fun p=>if p.1=k then (p.1,p.2.1,v) else p) else kvs++[(k,y,v)]
noncomputable def KAt (H:Hp):KX->V->Prop
 | .inl k,y=>y=kV k
 | .inr ks,y=>∃ b,y=.ref b/\nV H ks b
noncomputable def sR (kvs:List (KX×V×V)) (k:KX):Prop:=∀ p∈kvs,p.1.isLeft=k.isLeft
theorem HR (kvs:List (KX×V×V)) (k:KX) (y v:V):(gC kvs k y v).length<=kvs.length+1:=by
 unfold gC
 split
 ·rw [List.length_map]; omega
 ·simp
noncomputable abbrev PL:List (KX×V×V)->List (Key×Value)->Prop:=Paired fun p q=>p.1=.inl q.1/\p.2.1=kV q.1/\RelV p.2.2 q.2
noncomputable abbrev PT (H:Hp):List (KX×V×V)->List (N1×Addr×Value)->Prop:=Paired fun p q=>p.1=.inr q.1/\p.2.1=.ref q.2.1/\nV H q.1 q.2.1/\RelV p.2.2 q.2.2
theorem PL.val {kvs:List (KX×V×V)} {vs:List (Key×Value)} (r:PL kvs vs) (k:Key):qT (iD kvs (.inl k)) (valueAt vs k):=by
 induction r with
 | nil=>exact True.intro
 | @cons p q ps qs h t ih =>
  by_cases e:q.1=k
  ·have e1:p.1=.inl k:=by rw [h.1,e]
   have a:iD (p::ps) (.inl k)=some p.2.2:=by unfold iD; rw [List.find?_cons,decide_eq_true e1]; rfl
   have b:valueAt (q::qs) k=some q.2:=by unfold valueAt; rw [List.find?_cons]; simp [e]
   rw [a,b]
   exact h.2.2
  ·have e1:¬ p.1=.inl k:=fun z=>e (by rw [h.1] at z; exact Sum.inl.inj z)
   have a:iD (p::ps) (.inl k)=iD ps (.inl k):=by unfold iD; rw [List.find?_cons,decide_eq_false e1]
   have b:valueAt (q::qs) k=valueAt qs k:=by unfold valueAt; rw [List.find?_cons]; simp [e]
   rw [a,b]
   exact ih
theorem PT.val {H:Hp} {kvs:List (KX×V×V)} {xs:List (N1×Addr×Value)} (r:PT H kvs xs) (k:N1):qT (iD kvs (.inr k)) ((atKey xs k).map (·.2)):=by
 induction r with
 | nil=>exact True.intro
 | @cons p q ps qs h t ih =>
  by_cases e:q.1=k
  ·have e1:p.1=.inr k:=by rw [h.1,e]
   have a:iD (p::ps) (.inr k)=some p.2.2:=by unfold iD; rw [List.find?_cons,decide_eq_true e1]; rfl
   have b:atKey (q::qs) k=some q.2:=by unfold atKey; rw [List.find?_cons]; simp [e]
   rw [a,b]
   exact h.2.2.2
  ·have e1:¬ p.1=.inr k:=fun z=>e (by rw [h.1] at z; exact Sum.inr.inj z)
   have a:iD (p::ps) (.inr k)=iD ps (.inr k):=by unfold iD; rw [List.find?_cons,decide_eq_false e1]
   have b:atKey (q::qs) k=atKey qs k:=by unfold atKey; rw [List.find?_cons]; simp [e]
   rw [a,b]
   exact ih
theorem UL (kvs:List (KX×V×V)) (k:KX):kvs.any (fun p=>decide (p.1=k))=(iD kvs k).isSome:=by
 unfold iD
 rw [Option.isSome_map]
 induction kvs with
 | nil=>rfl
 | cons p ps ih =>
  rw [List.any_cons,List.find?_cons,ih]
  cases decide (p.1=k)<;>rfl
theorem PL.put {kvs:List (KX×V×V)} {vs:List (Key×Value)} (r:PL kvs vs) (k:Key) {v:V} {u:Value} (rv:RelV v u):PL (gC kvs (.inl k) (kV k) v) (stored vs k u):=by
 have e:kvs.any (fun p=>decide (p.1=.inl k))=vs.any (fun kv=>kv.1=k):=by
  induction r with
  | nil=>rfl
  | @cons p q ps qs h t ih =>
   rw [List.any_cons,List.any_cons,ih,h.1]
   congr 1
   exact decide_eq_decide.2 ⟨fun z=>Sum.inl.inj z,fun z=>by rw [z]⟩
 unfold gC stored
 rw [e]
 split
 ·rename_i hc
  clear hc e
  induction r with
  | nil=>exact .nil
  | @cons p q ps qs h t ih =>
   rw [List.map_cons,List.map_cons]
   refine .cons ?_ ih
   by_cases z:q.1=k
   ·rw [if_pos z,if_pos (by rw [h.1,z])]; exact ⟨h.1,h.2.1,rv⟩
   ·rw [if_neg z,if_neg (fun y=>z (by rw [h.1] at y; exact Sum.inl.inj y))]; exact h
 ·exact Paired.snoc r ⟨rfl,rfl,rv⟩
theorem PT.put {H:Hp} {kvs:List (KX×V×V)} {xs:List (N1×Addr×Value)} (r:PT H kvs xs) (k:N1) {b:Addr} {v:V} {u:Value} (hb:nV H k b) (rv:RelV v u):PT H (gC kvs (.inr k) (.ref b) v) (storedH xs k b u):=by
 have e:kvs.any (fun p=>decide (p.1=.inr k))=(atKey xs k).isSome:=by
  rw [UL]
  have:=(PT.val r k).pJ
  rw [Option.isSome_map] at this
  exact this
 unfold gC storedH
 rw [e]
 split
 ·rename_i hc
  clear hc e
  induction r with
  | nil=>exact .nil
  | @cons p q ps qs h t ih =>
   rw [List.map_cons,List.map_cons]
   refine .cons ?_ ih
   unfold putAt
   by_cases z:q.1=k
   ·rw [if_pos z,if_pos (by rw [h.1,z])]; exact ⟨h.1,h.2.1,h.2.2.1,rv⟩
   ·rw [if_neg z,if_neg (fun y=>z (by rw [h.1] at y; exact Sum.inr.inj y))]; exact h
 ·exact Paired.snoc r ⟨rfl,rfl,hb,rv⟩
section
variable {P:Program} {w:World} {H:Hp} {h:Heap} {a:Addr} {o:Obj} {kvs:List (KX×V×V)}
theorem sS (ok:qA P w H h) {ks:N1} {b:Addr} (n:nV H ks b):(mI P w).is h ks b:=by
 obtain ⟨vs,e,r⟩:=n
 obtain ⟨_,its,rv,q,h1,h2,m,h3⟩:=(show e9 P w H h b (.tup vs) from ok b _ e)
 have go:∀ {ks:N1} {vs:List V} {us:List Value},Paired (D3 H) ks vs->Vals vs us->iB (bM P w) h ks us:=by
  intro ks vs us r
  induction r generalizing us with
  | nil=>intro rv; cases rv; exact .nil
  | @cons k v ks vs i _ ih =>
   intro rv
   cases rv with
   | @cons _ u _ us ru rt =>
    refine .cons ?_ (ih rt)
    cases k with
    | inl k =>
     have i:v=kV k:=i
     subst i
     exact uP ru
    | inr k =>
     obtain ⟨c,rfl,hc⟩:=i
     have ru:u=.ref c:=ru
     exact ⟨c,ru,EI ok hc⟩
 exact ⟨q,its.toArray,m,h1,h2,h3,by simpa using go r rv⟩
theorem zE (x:D4 P w H o kvs) (ho:h.get? a=some o) (hp:∀ p∈kvs,p.1.isLeft=true):∃ vs,PL kvs vs/\h.DictOf (bM P w) a vs:=by
 obtain ⟨ex,es,ep,ed,hx⟩:=x
 rcases hx with ⟨vs,r,h1,h2,h3⟩ | ⟨xs,r,h1,h2⟩
 ·exact ⟨vs,r,o,es,ep,ho,ex,ed,h1,h2,h3⟩
 ·cases r with
  | nil =>
   have e0:es.toList=[]:=h1
   have e1:es=#[]:=by simpa using e0
   subst e1
   exact ⟨[],.nil,o,#[],ep,ho,ex,ed,(fun _ he=>by simp at he),.nil,List.nodup_nil⟩
  | @cons p q ps qs hq t =>
   have:=hp p List.mem_cons_self
   rw [hq.1] at this
   cases this
theorem EZ (ok:qA P w H h) (x:D4 P w H o kvs) (ho:h.get? a=some o) (hp:∀ p∈kvs,p.1.isLeft=false):∃ xs,PT H kvs xs/\h.DictOfH (mI P w) a xs:=by
 obtain ⟨ex,es,ep,ed,hx⟩:=x
 rcases hx with ⟨vs,r,h1,h2,h3⟩ | ⟨xs,r,h1,h2⟩
 ·cases r with
  | nil =>
   have e0:es.toList=[]:=List.eq_nil_of_length_eq_zero (by rw [h2.length]; rfl)
   exact ⟨[],.nil,o,es,ep,ho,ex,ed,e0,(fun _ he=>by simp at he),List.nodup_nil⟩
  | @cons p q ps qs hq t =>
   have:=hp p List.mem_cons_self
   rw [hq.1] at this
   cases this
 ·refine ⟨xs,r,o,es,ep,ho,ex,ed,h1,?_,h2⟩
  have go:∀ {kvs:List (KX×V×V)} {xs:List (N1×Addr×Value)},PT H kvs xs -> ∀ x∈xs,(mI P w).is h x.1 x.2.1:=by
   intro kvs xs r
   induction r with
   | nil=>intro x hx; cases hx
   | cons hq _ ih =>
    intro x hx
    rcases List.mem_cons.1 hx with e | hx
    ·subst e; exact sS ok hq.2.2.1
    ·exact ih x hx
  exact go r
end
section
variable {X:Cx} {pins:List (Addr×Obj)} {σ:L2.St} {H:Hp} {s:Shared} {a:Addr} {y v z:V} {u r:Value} {A:Around} {E:Value->Shared->Prop} {o:Obj} {kvs:List (KX×V×V)} {k:KX}
theorem M1 (I:Inv X pins σ H s) (e:H a=some (.dX o kvs)):kvs.length<=sizeLine/\(a == sysModules)=false/\s.heap.get? a=some o/\D4 X.prog X.w H o kvs:=I.hok a _ e
theorem aB3 {k:Key} (kd:sR kvs (.inl k)):∀ p∈kvs,p.1.isLeft=true:=kd
theorem aB4 {k:N1} (kd:sR kvs (.inr k)):∀ p∈kvs,p.1.isLeft=false:=kd
theorem O8 {Q:Value->Shared->Prop} (hu:A.units+2<cLine) (I:Inv X pins σ H s) (e:H a=some (.dX o kvs)) (hk:KAt H k y) (kd:sR kvs k) (hv:iD kvs k=some v) (ry:RelV y u) (h:∀ w' s',Inv X pins σ H s'->RelV v w'->Q w' s') :
  wpAny (model X.prog X.w) A (getItem (.ref a) u) Q E s:=by
 obtain ⟨z,hs,ho,hx⟩:=M1 I e
 cases k with
 | inl k =>
  have hk:y=kV k:=hk
  subst hk
  obtain ⟨vs,rel,dd⟩:=zE hx ho (aB3 kd)
  obtain ⟨w',hw,JR⟩:=qT.some_of (v:=v) (o:=valueAt vs k) (by rw [<- hv]; exact PL.val rel k)
  exact wpAny_getItem_of (uP ry) dd.mapOf hw (h w' _ (I.tok _) JR)
 | inr k =>
  obtain ⟨b,rfl,hb⟩:=hk
  obtain rfl:u=Value.ref b:=ry
  obtain ⟨xs,rel,dd⟩:=EZ I.hok hx ho (aB4 kd)
  obtain ⟨w',hw,JR⟩:=qT.some_of (v:=v) (o:=(atKey xs k).map (·.2)) (by rw [<- hv]; exact PT.val rel k)
  obtain ⟨p,hp,hp2⟩:=Option.map_eq_some_iff.mp hw
  refine wpAny_getItem_heap (nest_room hu) (sS I.hok hb) dd hp ?_
  rw [hp2]
  exact h w' _ (I.tok _) JR
theorem aKA {Q:Value->Shared->Prop} (neg:Bool) (hu:A.units+2<cLine) (I:Inv X pins σ H s) (e:H a=some (.dX o kvs)) (hk:KAt H k y) (kd:sR kvs k) (ry:RelV y u) (h:∀ s',Inv X pins σ H s'->Q (.bool (if neg then !(iD kvs k).isSome else (iD kvs k).isSome)) s') :
  wpAny (model X.prog X.w) A (compareOp (if neg then .NotIn else .In) u (.ref a)) Q E s:=by
 obtain ⟨z,hs,ho,hx⟩:=M1 I e
 cases k with
 | inl k =>
  have hk:y=kV k:=hk
  subst hk
  obtain ⟨vs,rel,dd⟩:=zE hx ho (aB3 kd)
  have ev:(iD kvs (.inl k)).isSome=(valueAt vs k).isSome:=(PL.val rel k).pJ
  rw [ev] at h
  cases neg with
  | false=>exact wpAny_in_of (uP ry) hs dd.mapOf (h _ (I.tok _))
  | true=>exact wpAny_notIn_of (uP ry) hs dd.mapOf (h _ (I.tok _))
 | inr k =>
  obtain ⟨b,rfl,hb⟩:=hk
  obtain rfl:u=Value.ref b:=ry
  obtain ⟨xs,rel,dd⟩:=EZ I.hok hx ho (aB4 kd)
  have ev:=(PT.val rel k).pJ
  rw [Option.isSome_map] at ev
  rw [ev] at h
  cases neg with
  | false=>exact wpAny_in_heap (nest_room hu) (sS I.hok hb) hs dd (h _ (I.tok _))
  | true=>exact wpAny_notIn_heap (nest_room hu) (sS I.hok hb) hs dd (h _ (I.tok _))
theorem UM (I:Inv X pins σ H s) (e:H a=some (.dX o kvs)):s.TypeIs (.ref a) "dict" := by
 obtain ⟨z,hs,ho,hx⟩:=M1 I e
 exact ⟨o,ho,hx.1.1⟩
theorem UN {P:Program} {w:World} {h':Heap} {H':Hp} {kvs:List (KX×V×V)} {vs:List (Key×Value)} (rel:PL kvs vs) (dd:h'.DictOf (bM P w) a vs):∃ o',h'.get? a=some o'/\D4 P w H' o' kvs:=by
 obtain ⟨o',es,ep,h1,h2,h3,h4,h5,h6⟩:=dd
 exact ⟨o',h1,h2,es,ep,h3,.inl ⟨vs,rel,h4,h5,h6⟩⟩
theorem X9 {P:Program} {w:World} {h':Heap} {H':Hp} {kvs:List (KX×V×V)} {xs:List (N1×Addr×Value)} (rel:PT H' kvs xs) (dd:h'.DictOfH (mI P w) a xs):∃ o',h'.get? a=some o'/\D4 P w H' o' kvs:=by
 obtain ⟨o',es,ep,h1,h2,h3,h4,_,h6⟩:=dd
 exact ⟨o',h1,h2,es,ep,h3,.inr ⟨xs,rel,h4,h6⟩⟩
theorem YA {H:Hp} {a:Addr} {o:Obj} {kvs:List (KX×V×V)} {u:HO} (e:H a=some (.dX o kvs)):∀ b ys,H b=some (.tup ys)->upd H a u b=some (.tup ys):=fun b ys eb=>by
 rw [cC (YR eb e (fun z=>nomatch z))]
 exact eb
theorem O9 {Q:Unit->Shared->Prop} (hu:A.units+2<cLine) (I:Inv X pins σ H s) (e:H a=some (.dX o kvs)) (hk:KAt H k y) (kd:sR kvs k) (hl:kvs.length<sizeLine) (ry:RelV y u) (rv:RelV v r) (h:∀ o' s',Inv X pins σ (upd H a (.dX o' (gC kvs k y v))) s'->Q () s') :
  wpAny (model X.prog X.w) A (setItem (.ref a) u r) Q E s:=by
 obtain ⟨z,hs,ho,hx⟩:=M1 I e
 have hz:(gC kvs k y v).length<=sizeLine:=by have:=HR kvs k y v; omega
 have mu:Mut (H a):=by rw [e]; exact True.intro
 cases k with
 | inl k =>
  have hk:y=kV k:=hk
  subst hk
  obtain ⟨vs,rel,dd⟩:=zE hx ho (aB3 kd)
  have hv:vs.length<=sizeLine:=by rw [<- Paired.length rel]; exact z
  refine wpAny_setItem_pairs (hsz:=hv) (uP ry) dd fun h' Y1 sb=>?_
  obtain ⟨o',g1,g2⟩:=UN (H':=upd H a (.dX o (gC kvs (.inl k) (kV k) v))) (PL.put rel k rv) Y1
  exact h o' _ (v0 I mu sb ⟨o',g1⟩ ⟨hz,hs,g1,g2.stay fun b ys eb=>by
   by_cases hb:b=a
   ·subst hb; rw [bJ] at eb; cases eb
   ·rw [cC hb] at eb ⊢; exact eb⟩)
 | inr k =>
  obtain ⟨b,rfl,hb⟩:=hk
  obtain rfl:u=Value.ref b:=ry
  obtain ⟨xs,rel,dd⟩:=EZ I.hok hx ho (aB4 kd)
  have hv:xs.length<=sizeLine:=by rw [<- Paired.length rel]; exact z
  refine wpAny_setItem_heap (hsz:=hv) (nest_room hu) (sS I.hok hb) dd fun h' Y1 sb=>?_
  obtain ⟨o',g1,g2⟩:=X9 (PT.put rel k hb rv) Y1
  exact h o' _ (v0 I mu sb ⟨o',g1⟩ ⟨hz,hs,g1,g2.stay (YA e)⟩)
end
end L8
end
section
namespace L8
open PySem PySem.Spec PyProof.Rows L2 L7
noncomputable def ZD (td ty:TE):TE:=fun σ H Q=>td σ H fun x H1=>ty σ H1 fun y H2=>∃ a o kvs k v,x=.ref a/\H2 a=some (.dX o kvs)/\KAt H2 k y/\sR kvs k/\iD kvs k=some v/\Q v H2
noncomputable def aB5 (neg:Bool) (ty td:TE):TE:=fun σ H Q=>ty σ H fun y H1=>td σ H1 fun x H2=>∃ a o kvs k,x=.ref a/\H2 a=some (.dX o kvs)/\KAt H2 k y/\sR kvs k/\Q (.bl (if neg then !(iD kvs k).isSome else (iD kvs k).isSome)) H2
noncomputable def aES (td ty tv:TE):TS:=fun D σ H=>tv σ H fun v H1=>td σ H1 fun x H2=>ty σ H2 fun y H3=>∃ a o kvs k,x=.ref a/\H3 a=some (.dX o kvs)/\KAt H3 k y/\sR kvs k/\kvs.length<sizeLine /\ ∀ o',D.nx σ (upd H3 a (.dX o' (gC kvs k y v)))
noncomputable def aET:TE:=fun _ H Q=>∀ p o,H p=none->Q (.ref p) (upd H p (.dX o []))
section
variable {X:Cx} {o i e f value:Expr} {pos pos':Pos} {td ty tv tz:TE}
theorem M2 (hu:X.A.units+2<cLine) (ho:PE X o td) (hi:PE X i ty) (hs:JV i):PE X (.Subscript o i pos) (ZD td ty):=by
 intro pins s σ H Q I h
 refine MR F.slot_dict_getitem.lookup hs (fB (ho pins s σ H _ I h) fun u s1 ⟨x,H1,I1,rx,q1⟩=>?_)
 refine fB (hi pins s1 σ H1 _ I1 q1) fun iv s2 aEU=>?_
 obtain ⟨y,H2,I2,ry,a,ob,kvs,k,v,ex,e,hk,kd,hv,q2⟩:=aEU
 subst ex
 obtain rfl:u=Value.ref a:=rx
 exact ⟨UM I2 e,O8 hu I2 e hk kd hv ry fun w' s3 I3 r3=>⟨v,H2,I3,r3,q2⟩⟩
theorem PB (hu:X.A.units+2<cLine) (hi:PE X i ty) (ho:PE X o td):PC X .NotIn i o (aB5 true ty td):=by
 intro pins s σ H Q I h
 refine fB (hi pins s σ H _ I h) fun iv s1 aEV=>?_
 obtain ⟨y,H1,I1,ry,q1⟩:=aEV
 refine fB (ho pins s1 σ H1 _ I1 q1) fun u s2 aEW=>?_
 obtain ⟨x,H2,I2,rx,a,ob,kvs,k,ex,e,hk,kd,q2⟩:=aEW
 subst ex
 obtain rfl:u=Value.ref a:=rx
 exact aKA true hu I2 e hk kd ry fun s3 I3=>⟨.bl _,H2,I3,rfl,q2⟩
theorem YB (hu:X.A.units+2<cLine) (ho:PE X o td) (hi:PE X i ty) (hv:PE X value tv) (hs:swapsWith value (some (.Subscript o i pos')) pos.line X.env=pure false):PS X (.Assign [.Subscript o i pos'] value pos) (aES td ty tv):=by
 intro pins s σ H D I h
 refine wpAny_Assign_Subscript (fB (hv pins s σ H _ I h) fun r s1 ⟨v,H1,I1,rv,q1⟩=>?_) hs
 refine fB (ho pins s1 σ H1 _ I1 q1) fun u s2 aEX=>?_
 obtain ⟨x,H2,I2,rx,q2⟩:=aEX
 refine fB (hi pins s2 σ H2 _ I2 q2) fun iv s3 aEY=>?_
 obtain ⟨y,H3,I3,ry,a,ob,kvs,k,ex,e,hk,kd,hl,q3⟩:=aEY
 subst ex
 obtain rfl:u=Value.ref a:=rx
 exact O9 hu I3 e hk kd hl ry rv fun o' s4 I4=>⟨σ,_,I4,q3 o'⟩
theorem UO {P:Program} {w:World} {H:Hp} (h:Heap) (hb:sysModules<h.objs.size):e9 P w H (h.push { cls:=.type "dict",data:=.dict #[] }) h.objs.size (.dX { cls:=.type "dict",data:=.dict #[] } []) :=
 ⟨Nat.zero_le _,beq_eq_false_iff_ne.mpr (Ne.symm (Nat.ne_of_lt hb)),Heap.get?_push_size _ rfl,⟨rfl,rfl,rfl⟩,#[],0,rfl,.inl ⟨[],.nil,(fun _ he=>by simp at he),.nil,List.nodup_nil⟩⟩
theorem YC:PE X (.Dict [] [] pos) aET:=fun pins s σ H Q I h =>
 wpAny_Dict_empty ⟨.ref s.heap.objs.size,_,I.laid (t':=s.toks) (fun _ _ q=>Heap.get?_push_of_some _ q) (Nat.le_refl _) (UO s.heap I.big),rfl,h _ _ (I.hok.fresh (Nat.le_refl _))⟩
end
end L8
end
section
namespace L8
open PySem PySem.Spec PyProof.Rows L2 L3 L4
section
variable {K:PySem.W.Frag} {S:Addr->Prop} {H:Hp}
theorem YD {d:D} {v:V} {k:Key} (h:Dn K S H d v) (e:wL d=some k):v=kV k:=by
 cases d<;>simp only [wL] at e<;>cases e<;>simp only [Dn] at h<;>exact h
theorem HS:∀ {ds:List D} {xs:List V} {ks:List Key},bA K S H ds xs->A1 ds=some ks->xs=ks.map kV
 | [],xs,ks,h,e=>by simp only [bA] at h; cases e; exact h
 | d::ds,xs,ks,h,e=>by
  obtain ⟨v,r,rfl,h1,h2⟩:=h.bW
  obtain ⟨k,ek,e⟩:=bnd e
  obtain ⟨ks',e2,rfl⟩:=y9 e
  rw [YD h1 ek,HS h2 e2]
  rfl
theorem UP {d:D} {v:V} {k:Sum Key (List Key)} (h:Dn K S H d v) (e:P8 d=some k):D3 H k v:=by
 cases d with
 | tup ds =>
  obtain ⟨ks,e2,rfl⟩:=y9 e
  simp only [Dn] at h
  obtain ⟨a,xs,rfl,ha,dn⟩:=h
  rw [HS dn e2] at ha
  exact ⟨a,rfl,ha⟩
 | int i=>cases e; simp only [Dn] at h; exact h
 | str i=>cases e; simp only [Dn] at h; exact h
 | _=>cases e
theorem CB:∀ {ds:List D} {xs:List V} {ks:N1},bA K S H ds xs->wV ds=some ks->Paired (D3 H) ks xs
 | [],xs,ks,h,e=>by simp only [bA] at h; cases e; subst h; exact .nil
 | d::ds,xs,ks,h,e=>by
  obtain ⟨v,r,rfl,h1,h2⟩:=h.bW
  obtain ⟨k,ek,e⟩:=bnd e
  obtain ⟨ks',e2,rfl⟩:=y9 e
  exact .cons (UP h1 ek) (CB h2 e2)
theorem wB {d:D} {v:V} {k:KX} (h:Dn K S H d v) (e:tI d=some k):KAt H k v:=by
 cases d with
 | tup ds =>
  obtain ⟨ks,e2,rfl⟩:=y9 e
  simp only [Dn] at h
  obtain ⟨a,xs,rfl,ha,dn⟩:=h
  exact ⟨a,rfl,xs,ha,CB dn e2⟩
 | int i=>cases e; simp only [Dn] at h; exact h
 | str i=>cases e; simp only [Dn] at h; exact h
 | _=>cases e
theorem zF {k:KX}:∀ {kvs:List (KX×V×V)} {ds:List D},bA K S H ds (kvs.map (·.2.2))->(∀ d,cV (kvs.map (·.1)) ds k=some d -> ∃ v,iD kvs k=some v/\Dn K S H d v)/\(cV (kvs.map (·.1)) ds k=none->iD kvs k=none)
 | [],ds,h=>⟨fun d e=>by simp [cV] at e,fun _=>rfl⟩
 | p::kvs,ds,h=>by
  cases ds with
  | nil=>exact absurd h.len (by simp)
  | cons d0 ds =>
   obtain ⟨v,r,e1,h1,h2⟩:=h.bW
   rw [List.map_cons] at e1
   cases e1
   have ih:=zF (k:=k) (kvs:=kvs) (ds:=ds) h2
   by_cases e:p.1=k
   ·have a:cV ((p::kvs).map (·.1)) (d0::ds) k=some d0:=by simp [cV,e]
    have b:iD (p::kvs) k=some p.2.2:=by simp [iD,e]
    rw [a,b]
    exact ⟨fun d ed=>by cases ed; exact ⟨_,rfl,h1⟩,fun z=>nomatch z⟩
   ·have a:cV ((p::kvs).map (·.1)) (d0::ds) k=cV (kvs.map (·.1)) ds k:=by simp [cV,e]
    have b:iD (p::kvs) k=iD kvs k:=by simp [iD,e]
    rw [a,b]
    exact ih
theorem E1 {k:KX} {kvs:List (KX×V×V)} (h:kindB (kvs.map (·.1)) k=true):sR kvs k:=fun p hp=>by
 unfold kindB at h
 rw [List.all_eq_true] at h
 simpa using h p.1 (List.mem_map_of_mem hp)
theorem aEZ {k:KX} {y v:V} {d:D} (dv:Dn K S H d v):∀ {kvs:List (KX×V×V)} {ds:List D},bA K S H ds (kvs.map (·.2.2)) ->
  (L8.gC kvs k y v).map (·.1)=(L4.gC (kvs.map (·.1)) ds k d).1/\bA K S H (L4.gC (kvs.map (·.1)) ds k d).2 ((L8.gC kvs k y v).map (·.2.2)):=by
 intro kvs ds h
 have e:(kvs.map (·.1)).any (fun q=>decide (q=k))=kvs.any (fun p=>decide (p.1=k)):=by rw [List.any_map]; rfl
 unfold L8.gC L4.gC
 rw [e]
 split
 ·refine ⟨?_,?_⟩
  ·simp only [List.map_map]
   refine List.map_congr_left fun p _=>?_
   show (if p.1=k then (p.1,p.2.1,v) else p).1=p.1
   split<;>rfl
  ·dsimp only
   have go:∀ {kvs:List (KX×V×V)} {ds:List D},bA K S H ds (kvs.map (·.2.2))->bA K S H (((kvs.map (·.1)).zip ds).map fun p=>if p.1=k then d else p.2) ((kvs.map fun p=>if p.1=k then (p.1,p.2.1,v) else p).map (·.2.2)):=by
    intro kvs
    induction kvs with
    | nil=>intro ds h; cases ds with
     | nil=>exact bA.nil
     | cons d0 ds=>exact absurd h.len (by simp)
    | cons p kvs ih =>
     intro ds h
     cases ds with
     | nil=>exact absurd h.len (by simp)
     | cons d0 ds =>
      obtain ⟨u,r,e1,h1,h2⟩:=h.bW
      rw [List.map_cons] at e1
      cases e1
      refine bA.cons ?_ (ih h2)
      by_cases z:p.1=k
      ·simpa [z] using dv
      ·simpa [z] using h1
   exact go h
 ·refine ⟨by simp,?_⟩
  rw [List.map_append]
  exact h.append (bA.one dv)
end
section
variable {X:Cx}
theorem aKB {o i:Expr} {pos:Pos} {fo fi:EF} (hu:X.A.units+2<cLine) (ho:dJ X o fo) (hi:dJ X i fi) (hs:JV i:=by intro _ _; rfl):dJ X (.Subscript o i pos) (aE aBx fo fi):=imp (M2 hu ho hi hs) fun σ H Q aE0=>by
 obtain ⟨S,ρ,Q3,fc,sl,⟨d,e,q⟩,k⟩:=aE0
 obtain ⟨x,ex,e⟩:=bnd e
 obtain ⟨y,ey,e⟩:=bnd e
 refine ⟨S,ρ,fun d=>d=x,fc,sl,⟨x,ex,rfl⟩,fun v H1 d1 s1 U4 e1=>?_⟩
 subst e1
 refine ⟨S,ρ,fun d=>d=y,bZ fc s1,Sl.fits (.same s1) sl,⟨y,ey,rfl⟩,fun u H2 d2 s2 MW e2=>?_⟩
 subst e2
 have U4:=Dn.fits (.same s2) _ _ U4
 cases d1 with
 | fC q0 ks ds =>
  obtain ⟨kk,ek,e⟩:=bnd e
  simp only [Dn] at U4
  obtain ⟨a,o,kvs,rfl,ha,sa,⟨rfl,_⟩,da⟩:=U4
  by_cases hk:kindB (kvs.map (·.1)) kk=true
  ·rw [if_pos hk] at e
   obtain ⟨v3,ev,dv⟩:=(zF da).1 d e
   exact ⟨a,o,kvs,kk,v3,rfl,ha,wB MW ek,E1 hk,ev,k v3 H2 d (s1.trans s2) dv q⟩
  ·rw [if_neg hk] at e; cases e
 | _=>cases e
theorem UQ {neg:Bool} {fo fi:EF} {σ:L2.St} {H:Hp} {Q:VK} (h:lift X.K (wE (aE (NB neg) fi fo)) σ H Q):aB5 neg (lift X.K (wE fi)) (lift X.K (wE fo)) σ H Q:=by
 obtain ⟨S,ρ,Q3,fc,sl,⟨d,e,q⟩,k⟩:=h
 obtain ⟨x,ex,e⟩:=bnd e
 obtain ⟨y,ey,e⟩:=bnd e
 refine ⟨S,ρ,fun d=>d=x,fc,sl,⟨x,ex,rfl⟩,fun v H1 d1 s1 U4 e1=>?_⟩
 subst e1
 refine ⟨S,ρ,fun d=>d=y,bZ fc s1,Sl.fits (.same s1) sl,⟨y,ey,rfl⟩,fun u H2 d2 s2 MW e2=>?_⟩
 subst e2
 have U4:=Dn.fits (.same s2) _ _ U4
 cases d2 with
 | fC q0 ks ds =>
  obtain ⟨kk,ek,e⟩:=bnd (o:=tI d1) e
  simp only [Dn] at MW
  obtain ⟨a,o,kvs,rfl,ha,sa,⟨rfl,_⟩,da⟩:=MW
  by_cases hk:kindB (kvs.map (·.1)) kk=true
  ·rw [if_pos hk] at e
   cases e
   have ev:(iD kvs kk).isSome=(cV (kvs.map (·.1)) ds kk).isSome:=by
    cases hl:cV (kvs.map (·.1)) ds kk with
    | none=>rw [(zF da).2 hl]; rfl
    | some d3=>obtain ⟨v3,e3,_⟩:=(zF da).1 d3 hl; rw [e3]; rfl
   refine ⟨a,o,kvs,kk,rfl,ha,wB U4 ek,E1 hk,?_⟩
   rw [ev]
   exact k _ H2 _ (s1.trans s2) (by simp only [Dn]) q
  ·rw [if_neg hk] at e; cases e
 | _=>cases e
section
variable {o i:Expr} {pos:Pos} {fo fi:EF}
theorem PD {neg:Bool} {σ:L2.St} {H:Hp} {Q:Bool->Hp->Prop} (h:liftT X.K (wT (tV (aE (NB neg) fi fo))) σ H Q):tB (aB5 neg (lift X.K (wE fi)) (lift X.K (wE fo))) σ H Q:=by
 obtain ⟨S,ρ,Q3,fc,sl,⟨b,e,q⟩,k⟩:=h
 obtain ⟨d,e1,e2⟩:=bnd e
 have eb:d=.bl b:=by
  obtain ⟨x,ex,e⟩:=bnd e1
  obtain ⟨y,ey,e⟩:=bnd e
  cases y with
  | fC q0 ks ds =>
   obtain ⟨kk,ek,e⟩:=bnd (o:=tI x) e
   by_cases hk:kindB ks kk=true
   ·rw [if_pos hk] at e
    cases e
    cases e2
    rfl
   ·rw [if_neg hk] at e; cases e
  | _=>cases e
 subst eb
 refine UQ ⟨S,ρ,fun d=>d=.bl b,fc,sl,⟨_,e1,rfl⟩,fun v H1 d s1 dn e3=>?_⟩
 subst e3
 simp only [Dn] at dn
 exact ⟨b,dn,k b H1 s1 q⟩
theorem aB6 (hu:X.A.units+2<cLine) (hi:dJ X i fi) (ho:dJ X o fo) (hm:behindInMarks .NotIn o=false:=by with_unfolding_all rfl):AS X (.Compare i [.NotIn] [o] pos) (tV (aE (NB true) fi fo)):=OD (aAF (PB hu hi ho) hm) fun _ _ _=>PD
end
end
section
variable {X:Cx}
theorem aE1 {i:Nat} {x:Str} {pos pos' p:Pos} (hN:X.N.Nodup) (hi:X.N[i]? = some x:=by rfl) (hx:Loc X.env.scope x:=by first | exact .inl rfl | exact .inr rfl) (hs:swapsWith (.Dict [] [] p) (some (.Name x pos')) pos.line X.env=pure false:=by rfl) (hf:X.fn x=true\/X.env.scope.names.lookup x=some .local:=by first | exact .inl rfl | exact .inr rfl) :
  y7 X (.Assign [.Name x pos'] (.Dict [] [] p) pos) (YG i):=nJ (t5 hN hi hx YC hs hf) fun B σ H ⟨H₀,S,w,ρ,G,E,hl,st,ht,ok⟩=>fun p o hp =>
 ok.nx _ _ _ _ (by rw [List.length_set]; exact hl) (st.JW (d:=.fC uZ [] []) (by rw [hl]; exact n0 hi) (aY hp) hp ⟨o,[],bJ,⟨rfl,trivial⟩,bA.nil⟩) ht
theorem wD {o:Option Sv} {p:(Nat->Obj->Prop)×List wU×List D} (h:NC o=some p):o=some (.ow (.fC p.1 p.2.1 p.2.2)):=by
 unfold NC at h
 split at h
 ·cases h; rfl
 ·cases h
theorem aE2 {i:Nat} {x:Str} {e k:Expr} {f:XF} {fk:EF} {pos pos' p:Pos} (hu:X.A.units+2<cLine) (he:U3 X e f) (hk:dJ X k fk)
  (hN:X.N[i]? = some x:=by rfl) (hv:GU X.env.scope x:=by first | exact Or.inl rfl | exact Or.inr (Or.inl rfl) | exact Or.inr (Or.inr rfl)) (hd:(x == ("__debug__" : Str))=false:=by decide) (hcd:(x == ("__classdict__" : Str))=false:=by decide)
  (hs:swapsWith e (some (.Subscript (.Name x p) k pos')) pos.line X.env=pure false:=by rfl) :
  y7 X (.Assign [.Subscript (.Name x p) k pos'] e pos) (A2 i f fk):=nJ (YB hu (qU hN hv hd hcd) hk he hs) fun B σ H aE3=>by
 obtain ⟨H₀,S,w,ρ,G,E,hl,st,ht,ok⟩:=aE3
 unfold wS A2 at ht
 cases h:((f ρ).bind fun p=>(NC p.1[i]?).bind fun kd=>(fk (dR p.1)).bind fun kv=>(tI kv).bind fun kk =>
  if kindB kd.2.1 kk=true/\kd.2.2.length<tD then some (p.1.set i (.ow (.fC (adr kd.1) (L4.gC kd.2.1 kd.2.2 kk p.2).1 (L4.gC kd.2.1 kd.2.2 kk p.2).2))) else none) with
 | none=>rw [h] at ht; exact ht.elim
 | some ρ2 =>
  rw [h] at ht
  obtain ⟨⟨ρ1,d1⟩,eq,h⟩:=bnd h
  obtain ⟨⟨q0,ks,ds⟩,ed,h⟩:=bnd h
  obtain ⟨kv,ek,h⟩:=bnd h
  obtain ⟨kk,e2,h⟩:=bnd h
  have o0:=wD ed
  by_cases hc:kindB ks kk=true/\ds.length<tD
  ·rw [if_pos hc] at h
   cases h
   refine ⟨H₀,S,w,ρ,G,fun ρ' d=>ρ' = ρ1/\d=d1,hl,st,⟨_,eq,rfl,rfl⟩,fun w' v H' ρ' d st' dv q'=>?_⟩
   obtain ⟨rfl,rfl⟩:=q'
   obtain ⟨a0,_,_⟩:=st'.own i _ o0
   refine ⟨_,a0,S,dR ρ',fun y=>y=kv,st'.W3,st'.all,⟨kv,ek,rfl⟩,fun y H2 y' s2 dy ey=>?_⟩
   subst ey
   have st2:=st'.same s2
   obtain ⟨a,b,c⟩:=st2.own i _ o0
   obtain ⟨o,kvs,hp,⟨e5,hq⟩,dn⟩:=c
   subst e5
   have nS:¬ SO S w' ρ' (w' i):=fun ⟨_,z⟩=>z i _ o0 rfl
   refine ⟨w' i,o,kvs,kk,rfl,hp,wB dy e2,E1 hc.1,?_,fun o'=>?_⟩
   ·have:=dn.len
    rw [List.length_map] at this
    rw [sizeLine_eq,<- this]
    exact hc.2
   ·have F:Fits X.K (SO S w' ρ') (SO S w' ρ') H2 (upd H2 (w' i) (.dX o' (L8.gC kvs kk y v))):=.upd (.inr (.inr ⟨_,_,hp⟩)) nS
    obtain ⟨p1,p2⟩:=aEZ (k:=kk) (y:=y) (Dn.fits (.same s2) _ _ dv) dn
    exact ok.nx w' σ _ _ hl (st2.write (d':=.fC (adr q0) _ _) o0 ⟨o',_,bJ,⟨p1,o,hq⟩,bA.fits F _ _ p2⟩) ht
  ·rw [if_neg hc] at h; cases h
end
theorem PF {K:PySem.W.Frag} {H₀ H H':Hp} {S:Addr->Prop} {w:Nat->Addr} {σ:L2.St} {ρ:bF} {G:List (D×V)} {i:Nat} {d d':D} (h:ST K H₀ S w σ H ρ G) (e:ρ[i]? = some (Sv.ow d)) (hb:∀ b u,b≠w i->H b=some u->H' b=some u) (q:yS K (SO S w ρ) H' d' (w i)):ST K H₀ S w σ H' (ρ.set i (.ow d')) G:=by
 obtain ⟨a0,b0,c0⟩:=h.own i d e
 have wr:=c0.wr
 have so:SO S w (ρ.set i (.ow d'))=SO S w ρ:=by
  funext a
  refine propext ⟨fun ⟨s,n⟩=>⟨s,fun j f hf=>?_⟩,fun ⟨s,n⟩=>⟨s,fun j f hf=>?_⟩⟩
  ·by_cases hj:j=i
   ·subst hj
    exact n j d' (by rw [List.getElem?_set_self (List.getElem?_eq_some_iff.1 e).1])
   ·exact n j f (by rw [List.getElem?_set_ne (Ne.symm hj)]; exact hf)
  ·by_cases hj:j=i
   ·subst hj; exact n j d e
   ·exact n j f (by rw [List.getElem?_set_ne (Ne.symm hj)] at hf; exact hf)
 have ne:∀ a,SO S w ρ a->a≠w i:=fun a z=>z.2 i d e
 have nt:∀ a xs,H a=some (.tup xs)->a≠w i:=fun a xs z y=>by
  subst y
  rcases wr with ⟨_,k⟩ | ⟨_,k⟩ | ⟨_,_,k⟩<;>rw [z] at k<;>cases k
 have nf:∀ a o u,H a=some (.IH o u)->a≠w i:=fun a o u z y=>by
  subst y
  rcases wr with ⟨_,k⟩ | ⟨_,k⟩ | ⟨_,_,k⟩<;>rw [z] at k<;>cases k
 have F:Fits K (SO S w ρ) (SO S w ρ) H H':=⟨fun a xs z=>hb _ _ (nt a xs z) z,fun a ns z=>z.elim (fun ⟨o,y⟩=>.inl ⟨o,hb _ _ (nf a o _ y) y⟩) .inr,fun a xs z s=>⟨hb _ _ (ne a s) z,s⟩,fun a xs z s=>⟨hb _ _ (ne a s) z,s⟩,fun a o xs z s=>⟨hb _ _ (ne a s) z,s⟩⟩
 refine ⟨h.fc,fun b u z=>hb b u (cH z b0) (h.sm b u z),fun j f hf=>?_,fun j k d1 e1 h1 h2 z=>?_,fun j f hf=>?_,fun g hg=>by rw [so]; exact Dn.fits F _ _ (h.gh g hg)⟩
 ·rw [so]
  rcases get_set hf with ⟨hj,z,_⟩ | ⟨hj,z⟩
  ·cases z
   subst hj
   exact ⟨a0,b0,q⟩
  ·obtain ⟨a,b,c⟩:=h.own j f z
   exact ⟨a,b,c.fits F fun ob hob=>hb _ _ (fun y=>hj (h.inj _ _ _ _ z e y)) hob⟩
 ·have old:∀ {m:Nat} {y:D},(ρ.set i (.ow d'))[m]? = some (Sv.ow y) -> ∃ y2,ρ[m]? = some (Sv.ow y2):=fun {m y} hm=>by
   rcases get_set hm with ⟨hj,_,_⟩ | ⟨_,z⟩
   ·subst hj; exact ⟨d,e⟩
   ·exact ⟨_,z⟩
  obtain ⟨_,g1⟩:=old h1
  obtain ⟨_,g2⟩:=old h2
  exact h.inj j k _ _ g1 g2 z
 ·rw [so]
  rcases get_set hf with ⟨_,z,_⟩ | ⟨hj,z⟩
  ·cases z
  ·obtain ⟨u,a,b⟩:=h.ro j f z
   exact ⟨u,a,Dn.fits F f u b⟩
noncomputable def YE (K:PySem.W.Frag) (R:VC):Sp:=fun vs H Q _=>∃ (T:Addr->Prop) (ds:List D) (us:List V) (p:Addr) (o:Obj) (kvs:List (KX×V×V)) (xs:List D) (r:D×KD),vs=us++[.ref p]/\(∀ a,H a=none->T a)/\¬ T p/\H p=some (.dX o kvs)/\bA K T H ds us/\bA K T H xs (kvs.map (·.2.2))/\R ds (kvs.map (·.1),xs)=.ok r /\
 ∀ v H' o' kvs',(∀ b u,b≠p->H b=some u->H' b=some u)->H' p=some (.dX o' kvs')->kvs'.map (·.1)=r.2.1->bA K T H' r.2.2 (kvs'.map (·.2.2))->Dn K T H' r.1 v->Q v H'
noncomputable def uA (K:PySem.W.Frag) (t:AF) (j:Nat):TA:=fun σ H Q=>∃ (S:Addr->Prop) (ρ:cD) (ds:List D) (p:Addr),(∀ a,H a=none->S a)/\Sl K S H ρ σ/\t ρ=some ds/\σ[j]? = some (some (.ref p)) /\ ∀ vs H',Same H H'->bA K S H' ds vs->Q (vs++[.ref p]) H'
section
variable {X:Cx}
theorem CC {e:Expr} {es:List Expr} {f:EF} {g:AF} {j:Nat} (he:dJ X e f) (hr:PA X es (uA X.K g j)) (hs:starEach (e::es) X.env=(false,eval e X.env)::starEach es X.env:=by rfl):PA X (e::es) (uA X.K (aA f g) j) :=
 SY (jS he hr hs) fun σ H Q aE4=>by
  obtain ⟨S,ρ,ds,p,fc,sl,et,ej,k⟩:=aE4
  obtain ⟨d,ed,et⟩:=bnd et
  obtain ⟨r,er,et⟩:=bnd et
  cases et
  refine ⟨S,ρ,fun y=>y=d,fc,sl,⟨d,ed,rfl⟩,fun v H1 d1 s1 U4 e1=>?_⟩
  subst e1
  refine ⟨S,ρ,r,p,bZ fc s1,Sl.fits (.same s1) sl,er,ej,fun vs H2 s2 MW=>?_⟩
  exact k (v::vs) H2 (s1.trans s2) (bA.cons (Dn.fits (.same s2) _ _ U4) MW)
theorem ZE {j:Nat} {x:Str} {pos:Pos} (hN:X.N[j]? = some x:=by rfl) (hv:GU X.env.scope x:=by first | exact Or.inl rfl | exact Or.inr (Or.inl rfl) | exact Or.inr (Or.inr rfl)) (hd:(x == ("__debug__" : Str))=false:=by decide) (hcd:(x == ("__classdict__" : Str))=false:=by decide):PA X [.Name x pos] (uA X.K aC j) :=
 SY (jS (qU hN hv hd hcd) qW) fun σ H Q aE5=>by
  obtain ⟨S,ρ,ds,p,fc,sl,et,ej,k⟩:=aE5
  cases et
  exact ⟨_,ej,k [] H (Same.refl H) bA.nil⟩
theorem CD {R:VC} {t:AF} {j:Nat} {H₀ H:Hp} {S:Addr->Prop} {w:Nat->Addr} {σ:L2.St} {ρ:bF} {G:List (D×V)} {r:(Nat->Obj->Prop)×D×KD} {Q:VK} (st:ST X.K H₀ S w σ H ρ G) (h:stepM R t j ρ=some r)
  (k:∀ v H',ST X.K H₀ S w σ H' (ρ.set j (.ow (.fC (adr r.1) r.2.2.1 r.2.2.2))) G->Dn X.K (SO S w ρ) H' r.2.1 v->Q v H'):YW (YE X.K R) [] E0 (uA X.K t j) σ H Q:=by
 obtain ⟨ds,et,h⟩:=bnd h
 obtain ⟨⟨q0,ks,xs⟩,eo,h⟩:=bnd h
 have o0:=wD eo
 cases hR:R ds (ks,xs) with
 | no=>dsimp only at h; rw [hR] at h; cases h
 | ex c=>dsimp only at h; rw [hR] at h; cases h
 | ok r0 =>
  dsimp only at h
  rw [hR] at h
  cases h
  obtain ⟨a0,b0,_⟩:=st.own j _ o0
  refine ⟨SO S w ρ,lI ρ,ds,w j,st.SU,st.rd,et,a0,fun vs H1 s1 dn=>?_⟩
  have st1:=st.same s1
  obtain ⟨_,_,⟨o,kvs,hp,⟨e5,hq⟩,dk⟩⟩:=st1.own j _ o0
  subst e5
  show YE X.K R ((vs++[V.ref (w j)])++[]) H1 Q E0
  rw [List.append_nil]
  refine ⟨SO S w ρ,ds,vs,w j,o,kvs,xs,r0,rfl,st1.SU,fun z=>z.2 j _ o0 rfl,hp,dn,dk,hR,fun v H' o' kvs' hb hp' ek dx dv=>?_⟩
  exact k v H' (PF st1 o0 hb ⟨o',kvs',hp',⟨ek,o,hq⟩,dx⟩) dv
theorem aB7 {k:Nat} {f:Addr} {fd:FuncData} {ps:List Str} {R:VC} {i j:Nat} {x y:Str} {p pos pos' cpos:Pos} {e:Expr} {es:List Expr} {t:AF} (F:aQ X.prog X.w X.K X.mg X.base cQ k f fd ps (YE X.K R)) (hr:kU k X.A) (hm:X.mg y=some (.ref f)) (hk:PySem.W.keepIn X.K (.ref f)=true) (hb:Binds X.K fd ps []) (hij:i≠j) (hN:X.N.Nodup)
  (ha:PA X (e::es) (uA X.K t j)) (hi:X.N[i]? = some x:=by rfl) (hx:Loc X.env.scope x:=by first | exact .inl rfl | exact .inr rfl) (hg:Gl X y:=by rfl) (hdb:(y == ("__debug__" : Str))=false:=by decide) (he:starEach (e::es) X.env=(false,eval e X.env)::starEach es X.env:=by rfl) (hpl:(backTo cpos (starEach es X.env)).any (·.1)=false:=by rfl)
  (hs:swapsWith (.Call (.Name y p) (e::es) [] cpos) (some (.Name x pos')) pos.line X.env=pure false:=by rfl) (hf:X.fn x=true\/X.env.scope.names.lookup x=some .local:=by first | exact .inl rfl | exact .inr rfl) :
  y7 X (.Assign [.Name x pos'] (.Call (.Name y p) (e::es) [] cpos) pos) (tJ i R t j):=nJ (t5 hN hi hx (D9 F hr hg hm hk hb .nil SL ha hdb he hpl) hs hf) fun B σ H aE6=>by
 obtain ⟨H₀,S,w,ρ,G,E,hl,st,ht,ok⟩:=aE6
 unfold wS tJ at ht
 cases h:stepM R t j ρ with
 | none=>rw [h] at ht; exact ht.elim
 | some r =>
  rw [h] at ht
  refine CD st h fun v H' st' dv=>ok.nx w _ H' _ (by rw [List.length_set]; exact hl) (st'.yT (by rw [hl]; exact n0 hi) (Dn.fits (.mono fun a z=>?_) _ _ dv)) ht
  refine ⟨z.1,fun m y hm=>?_⟩
  rcases get_set hm with ⟨hj,_,hlt⟩ | ⟨_,q⟩
  ·subst hj
   obtain ⟨_,et,h⟩:=bnd h
   obtain ⟨⟨q0,ks,xs⟩,eo,h⟩:=bnd h
   exact z.2 m _ (wD eo)
  ·exact z.2 m y q
theorem aKC {k:Nat} {f:Addr} {fd:FuncData} {ps:List Str} {R:VC} {j:Nat} {y:Str} {p pos cpos:Pos} {e:Expr} {es:List Expr} {t:AF} (F:aQ X.prog X.w X.K X.mg X.base cQ k f fd ps (YE X.K R)) (hr:kU k X.A) (hm:X.mg y=some (.ref f)) (hk:PySem.W.keepIn X.K (.ref f)=true) (hb:Binds X.K fd ps [])
  (ha:PA X (e::es) (uA X.K t j)) (hg:Gl X y:=by rfl) (hdb:(y == ("__debug__" : Str))=false:=by decide) (he:starEach (e::es) X.env=(false,eval e X.env)::starEach es X.env:=by rfl) (hpl:(backTo cpos (starEach es X.env)).any (·.1)=false:=by rfl)
  (hs:swapsWith (.Call (.Name y p) (e::es) [] cpos) none pos.line X.env=pure false:=by rfl) :
  y7 X (.Expr (.Call (.Name y p) (e::es) [] cpos) pos) (VF R t j):=nJ (MK (D9 F hr hg hm hk hb .nil SL ha hdb he hpl) hs) fun B σ H aE7=>by
 obtain ⟨H₀,S,w,ρ,G,E,hl,st,ht,ok⟩:=aE7
 unfold wS VF at ht
 cases h:stepM R t j ρ with
 | none=>rw [h] at ht; exact ht.elim
 | some r =>
  rw [h] at ht
  exact CD st h fun v H' st' _=>ok.nx w _ H' _ hl st' ht
noncomputable abbrev ZF (K:PySem.W.Frag) (j:Nat) (k:EF):TS:=aC0 (ZD (V8 j) (lift K (wE k)))
theorem aE8 {st:Stmt} {b:SF} {j:Nat} {x:Str} {i:Expr} {k:EF} {p pos pos':Pos} (hu:X.A.units+2<cLine) (h:y7 X st b) (hk:dJ X i k) (hN:X.N[j]? = some x:=by rfl) (hv:GU X.env.scope x:=by first | exact Or.inl rfl | exact Or.inr (Or.inl rfl) | exact Or.inr (Or.inr rfl)) (hd:(x == ("__debug__" : Str))=false:=by decide) (hcd:(x == ("__classdict__" : Str))=false:=by decide) (hs:JV i:=by intro _ _; rfl) :
  BR X [st,.Return (some (.Subscript (.Name x p) i pos)) pos'] (RY (B3 X.K (XC X) X.N.length (wS b)) (ZF X.K j k)):=yL h (MJ (RZ (M2 hu (qU hN hv hd hcd) hk hs)))
theorem FP {st:Stmt} {rest:List Stmt} {f g:SF} {tl:TS} (h1:y7 X st f) (h2:BR X rest (RY (B3 X.K (XC X) X.N.length (wS g)) tl)):BR X (st::rest) (RY (B3 X.K (XC X) X.N.length (wS (aJ f g))) tl):=G7 (yL h1 h2) fun B σ H aE9=>by
 obtain ⟨H₀,S,w,ρ,G,E,hl,st,ht,ok⟩:=aE9
 unfold wS aJ at ht
 refine ⟨H₀,S,w,ρ,G,{ E with nx:=wS g E },hl,st,?_,⟨fun w' σ' H' ρ' hl' st' q=>⟨H₀,S,w',ρ',G,E,hl',st',q,ok⟩,ok.rt,ok.bk,ok.ct,ok.ex⟩⟩
 unfold wS
 cases hf:f ρ with
 | nx ρ'=>rw [hf] at ht; exact ht
 | rt d=>rw [hf] at ht; exact ht
 | ex c=>rw [hf] at ht; exact ht
 | no=>rw [hf] at ht; exact ht
end
theorem aKD {P:Program} {w:World} {K:PySem.W.Frag} {mg:Str->Option Value} {base:Heap} {x qual:Str} {st:Stmt} {f:Addr} {fd:FuncData} {N ps:List Str} {k n np:Nat} {b:SF} {key:EF} (F:l0 K x qual st f fd) (S:bB N ps (aH st)) (hn:N.length=n) (hp:ps.length=np)
  (hbody:∀ (cdv:Value) (A:Around) (outer:List Env) (s:Shared) (H:Hp) (E:XK),kU k (A.deeper (envOfC qual (aH st) s.heap.objs.size f cdv)) ->
   ∃ xc,BR (EA cQ P w K mg base N qual (aH st) f cdv A outer s H E).nox (aZ st) (RY (B3 K xc N.length (wS b)) (ZF K (np - 1) key))):aQ P w K mg base cQ (k+1) f fd ps (YE K (runM n np b key)):=by
 subst hn hp
 refine F.ok S (fun vs H Q E h=>?_) fun cdv A outer s H vs Q E hr h=>?_
 ·obtain ⟨T,ds,us,p,o,kvs,xs,r,rfl,fc,np,hp,du,dx,hR,kk⟩:=h
  have hb:=LC hR uZ
  unfold wW at hb
  split at hb
  ·rename_i hl
   rw [List.length_append,<- du.len]
   exact hl
  ·cases hb
 ·obtain ⟨xc,hb⟩:=hbody cdv A outer s H E hr
  obtain ⟨T,ds,us,p,o,kvs,xs,r,rfl,fc,nT,hp,du,dx,hR,kk⟩:=h
  refine ⟨_,hb,?_⟩
  have hq:=LC hR (fun a _=>a=p)
  unfold wW at hq
  split at hq
  case isFalse=>cases hq
  rename_i hl
  have hlu:=du.len
  have hpN:ps.length<=N.length:=by have:=congrArg List.length S.pre; rw [List.length_take] at this; omega
  have j0:ps.length - 1=ds.length:=by omega
  have sj:(startM N.length ds (fun a _=>a=p) (kvs.map (·.1),xs))[ds.length]? = some (Sv.ow (.fC (fun a _=>a=p) (kvs.map (·.1)) xs)):=by
   unfold startM
   rw [List.getElem?_append_right (by simp)]
   simp
  have sv:∀ i,i<ds.length->(startM N.length ds (fun a _=>a=p) (kvs.map (·.1),xs))[i]? = (ds[i]?).map Sv.ro:=fun i hi=>by
   unfold startM
   rw [List.getElem?_append_left (by simpa using hi),List.getElem?_map]
  have sn:∀ i,ds.length<i -> ∀ y,(startM N.length ds (fun a _=>a=p) (kvs.map (·.1),xs))[i]? = some y->y=Sv.no:=fun i hi y e=>by
   unfold startM at e
   rw [List.getElem?_append_right (by simp; omega)] at e
   obtain ⟨m,hm⟩:∃ m,i - (List.map Sv.ro ds).length=m+1:=⟨i - ds.length - 1,by simp; omega⟩
   rw [hm,List.getElem?_cons_succ,List.getElem?_replicate] at e
   split at e
   ·cases e; rfl
   ·cases e
  have ow:∀ (i:Nat) (d:D),(startM N.length ds (fun a _=>a=p) (kvs.map (·.1),xs))[i]? = some (Sv.ow d)->i=ds.length/\d=.fC (fun a _=>a=p) (kvs.map (·.1)) xs:=fun i d e=>by
   rcases Nat.lt_trichotomy i ds.length with h | h | h
   ·rw [sv i h] at e
    obtain ⟨y,_,ey⟩:=Option.map_eq_some_iff.1 e
    cases ey
   ·subst h
    rw [sj] at e
    cases e
    exact ⟨rfl,rfl⟩
   ·cases sn i h _ e
  have so:∀ a,T a->SO (fun a=>T a\/a=p) (fun _=>p) (startM N.length ds (fun a _=>a=p) (kvs.map (·.1),xs)) a:=fun a ta=>⟨.inl ta,fun i d e z=>nT (by rw [<- show a=p from z]; exact ta)⟩
  have σl:L2.start N (us++[.ref p])=us.map some++some (.ref p)::List.replicate (N.length - (us.length+1)) none:=by
   unfold L2.start
   simp
  cases hbs:b (startM N.length ds (fun a _=>a=p) (kvs.map (·.1),xs)) with
  | no=>rw [hbs] at hq; cases hq
  | rt d=>rw [hbs] at hq; cases hq
  | ex c=>rw [hbs] at hq; cases hq
  | nx ρ1 =>
   rw [hbs] at hq
   dsimp only at hq
   refine ⟨fun c=>if c=p then none else H c,fun a=>T a\/a=p,fun _=>p,startM N.length ds (fun a _=>a=p) (kvs.map (·.1),xs),[],{ nx:=fun ρ=>ρ=ρ1,rt:=fun _=>False,bk:=fun _=>False,ct:=fun _=>False,ex:=fun _=>False },?_,?_,?_,?_⟩
   ·rw [σl]
    simp
    omega
   ·refine ⟨fun a e=>?_,fun c u e=>?_,fun i d e=>?_,fun i i' d d' h1 h2 _=>(ow i d h1).1.trans (ow i' d' h2).1.symm,fun i d e=>?_,fun g hg=>by cases hg⟩
    ·by_cases z:a=p
     ·exact .inr z
     ·exact .inl (fc a (by simpa [z] using e))
    ·by_cases z:c=p
     ·simp [z] at e
     ·simpa [z] using e
    ·obtain ⟨rfl,rfl⟩:=ow i d e
     refine ⟨?_,by simp,o,kvs,hp,⟨rfl,rfl⟩,bA.fits (.mono so) _ _ dx⟩
     rw [σl,List.getElem?_append_right (by simp; omega)]
     simp [hlu]
    ·by_cases hi:i<ds.length
     ·rw [sv i hi] at e
      obtain ⟨y,e1,ey⟩:=Option.map_eq_some_iff.1 e
      cases ey
      obtain ⟨v,ev,dv⟩:=du.get e1
      refine ⟨v,?_,Dn.fits (.mono so) _ _ dv⟩
      have hv:i<us.length:=(List.getElem?_eq_some_iff.1 ev).1
      rw [σl,List.getElem?_append_left (by simpa using hv),List.getElem?_map,ev]
      rfl
     ·rcases Nat.lt_or_ge ds.length i with h | h
      ·cases sn i h _ e
      ·have:i=ds.length:=by omega
       subst this
       rw [sj] at e
       cases e
   ·unfold wS
    rw [hbs]
   ·refine ⟨fun w' σ' H' ρ' hl' st' e=>?_,fun _ _ _ _ _ z=>z.elim,fun _ _ _ _ _ _ z=>z.elim,fun _ _ _ _ _ _ z=>z.elim,fun _ _ _ z=>z.elim⟩
    subst e
    rw [j0] at hq ⊢
    obtain ⟨⟨q',ks',xs'⟩,eo,hq⟩:=bnd hq
    obtain ⟨kv,ek,hq⟩:=bnd hq
    obtain ⟨kk',e2,hq⟩:=bnd hq
    have o0:=wD eo
    obtain ⟨a0,b0,⟨o1,aQ9,hp1,⟨e5,hq1⟩,dk1⟩⟩:=st'.own ds.length _ o0
    split at hq
    case isFalse=>cases hq
    rename_i hc
    obtain ⟨d,ed,hq9⟩:=y9 hq
    obtain ⟨_,hwp⟩:=hc.2 _ _ hq1
    have hwp:w' ds.length=p:=hwp
    refine ⟨_,a0,SO (fun a=>T a\/a=p) w' ρ',lI ρ',fun y=>y=kv,st'.SU,st'.rd,⟨kv,ek,rfl⟩,fun y H2 y' s2 dy ey=>?_⟩
    subst ey
    have st2:=st'.same s2
    obtain ⟨_,_,⟨o2,UR,hp2,⟨e6,_⟩,dk2⟩⟩:=st2.own ds.length _ o0
    have toT:∀ a,SO (fun a=>T a\/a=p) w' ρ' a->T a:=fun a z=>z.1.elim id fun y=>absurd (y.trans hwp.symm) (z.2 _ _ o0)
    have e7:UR.map (·.1)=ks':=e6
    have hk2:kindB (UR.map (·.1)) kk' = true:=by rw [e7]; exact hc.1
    have ed2:cV (UR.map (·.1)) xs' kk' = some d:=by rw [e7]; exact ed
    obtain ⟨v3,ev,dv⟩:=(zF dk2).1 d ed2
    refine ⟨w' ds.length,o2,UR,kk',v3,rfl,hp2,wB dy e2,E1 hk2,ev,?_⟩
    have er:r=(d,ks',xs'):=hq9.symm
    subst er
    rw [hwp] at hp2
    exact kk v3 H2 o2 UR (fun c u ne hc=>s2 _ _ (st'.sm c u (by simpa [ne] using hc))) hp2 e7 (bA.fits (.mono toT) _ _ dk2) (Dn.fits (.mono toT) _ _ dv)
theorem aEa {P:Program} {w:World} {K:PySem.W.Frag} {mg:Str->Option Value} {base:Heap} {k:Nat} {f:Addr} {fd:FuncData} {ps:List Str}:aQ P w K mg base cQ k f fd ps (YE K fun _ _=>.no) :=
 ⟨fun _ _ _ _ h=>(by obtain ⟨_,_,_,_,_,_,_,_,_,_,_,_,_,_,e,_⟩:=h; cases e),fun _ _ _ _ _ _ _ _ _ _ _ _ _ h=>(by obtain ⟨_,_,_,_,_,_,_,_,_,_,_,_,_,_,e,_⟩:=h; cases e)⟩
section
variable {X:Cx}
theorem aEb {a b:Expr} {t:AF} {es:List Expr} {kk:Nat} {tp p pos:Pos} (hm:X.mg "zip" = none) (ha:FG X [a,b] t) (hg:Gl X "zip" := by rfl) (hs:starEach [a,b] X.env=[(false,eval a X.env),(false,eval b X.env)]:=by rfl) (hs2:starEach [b] X.env=[(false,eval b X.env)]:=by rfl) :
  Y9 X (.Tuple es kk tp) (.Call (.Name "zip" p) [a,b] [] pos) (uI t):=cI (aJD hm ha hg hs hs2) fun ρ Q aEc=>by
 obtain ⟨ds,e,q⟩:=aEc
 obtain ⟨as,ea,e⟩:=bnd e
 refine ⟨as,ea,?_⟩
 unfold YH at e
 split at e<;>first | (cases e; exact q) | cases e
end
end L8
end
section
namespace L8
open PySem PySem.Spec PyProof.Rows L2 L3 L4 L5
section
variable {X:Cx}
end
end L8
end
section
namespace L8
open PySem PySem.Spec PyProof.Rows L2 L3 L4
section
variable {X:Cx}
section
variable {a b:Expr} {fa fb:EF} {pos:Pos}
end
end
end L8
end
section
namespace K48
open PySem L2 L3 L4 L6 L7 L8 L5
noncomputable def top (i : Nat) : Stmt := PySem.Challenge.pw_risecount_k48_whole_sums.main.body.getD i (.Pass ⟨0, 0, 0, 0⟩)
section
variable {P:Program} {w:World} {K:PySem.W.Frag} {mg:Str->Option Value} {base:Heap} {f:Addr} {fd:FuncData}
noncomputable abbrev fM:Stmt:=top 5
theorem nE:bB ["n"] ["n"] (aH fM):=⟨rfl,rfl,rfl,by decide +kernel,rfl,by decide +kernel,by decide +kernel⟩
theorem u9 {kk:Nat} (F:l0 K "are_too_many" "are_too_many" fM f fd) {lW:Tok} (lX:mg "MOST_THINGS" = some (.int 9 lW)):aQ P w K mg base cQ (kk+1) f fd ["n"] (dL K eL):=by
 refine gI F nE rfl rfl (fun cdv A outer s H E hr=>?_)
 have nd:=nE.nd
 exact (aX (eR (gt4 (x4 0) (c4 lX))))
noncomputable abbrev fN:Stmt:=top 7
theorem nF:bB ["order", "ahead", "others"] ["order", "ahead"] (aH fN):=⟨rfl,rfl,rfl,by decide +kernel,rfl,by decide +kernel,by decide +kernel⟩
theorem vA {kk:Nat} (F:l0 K "ready_things" "ready_things" fN f fd) (qC:mg "all" = none) (bC:mg "len" = none) (aM:mg "range" = none):aQ P w K mg base cQ (kk+1) f fd ["order", "ahead"] (dL K LL.eK):=by
 refine gI F nF rfl rfl (fun cdv A outer s H E hr=>?_)
 have nd:=nF.nd
 exact (bK (B9 (i:=2) (ls:=["thing"]) (fs:=["ahead"]) (fr:=[1]) nd rfl (eE aM (gW bC (aF (x4 0) aL))) (fun _ _ _ _ _ _ nd=>iC (i:=0) nd (by decide)) (fun _ _ _ _ _ _=>EV (T9 (x4 0) (x4 1))) (fun _ _ _ _ _ _=>(x4 0)))
  (aX (eR (nD.pe (kK (ls:=["thing"]) (fs:=["ahead", "order"]) (fr:=[1,0]) rfl (oB (x4 2)) (fun _ _ _ _ _ _ nd=>iC (i:=0) nd (by decide)) (fun _ _ _ _ _ _=>EV (u7 (aBZ rfl qC (aF (nD.pe (kK (ls:=["lower"]) (fs:=["ahead"]) (fr:=[1]) rfl (oB (tE (x4 2) (x4 0))) (fun _ _ _ _ _ _ nd=>iC (i:=0) nd (by decide)) (fun _ _ _ _ _ _=>mK) (fun _ _ _ _ _ _=>(in4 (x4 0) (x4 1))))) aL)))) (fun _ _ _ _ _ _=>(x4 0)))))))
noncomputable abbrev mL:Stmt:=top 8
theorem CF:bB ["ahead", "thing"] ["ahead", "thing"] (aH mL):=⟨rfl,rfl,rfl,by decide +kernel,rfl,by decide +kernel,by decide +kernel⟩
theorem PH {kk:Nat} (F:l0 K "joined" "joined" mL f fd) (mM:mg "sorted" = none) (bG:mg "tuple" = none):aQ P w K mg base cQ (kk+1) f fd ["ahead", "thing"] (dL K LL.gD):=by
 refine gI F CF rfl rfl (fun cdv A outer s H E hr=>?_)
 have nd:=CF.nd
 exact (aX (eR (iT bG (aF (nD.pe (UJ mM (aF (eM (x4 0) (KA (aF (x4 1) aL))) aL))) aL))))
noncomputable abbrev pK:Stmt:=top 13
theorem HU:bB ["one", "other"] ["one", "other"] (aH pK):=⟨rfl,rfl,rfl,by decide +kernel,rfl,by decide +kernel,by decide +kernel⟩
theorem US {kk:Nat} (F:l0 K "added" "added" pK f fd) (CG:mg "zip" = none):aQ P w K mg base cQ (kk+1) f fd ["one", "other"] (dL K LL.jQ):=by
 refine gI F HU rfl rfl (fun cdv A outer s H E hr=>?_)
 have nd:=HU.nd
 exact (aX (eR (nD.pe (kK (ls:=["a", "b"]) (fs:=[]) (fr:=[]) rfl (aEb CG (aF (x4 0) (aF (x4 1) aL))) (fun _ _ _ _ _ _ nd=>KG (i:=0) (j:=1) rfl nd (by decide) (by decide)) (fun _ _ _ _ _ _=>mK) (fun _ _ _ _ _ _=>(eM (x4 0) (x4 1)))))))
noncomputable abbrev dN:Stmt:=top 12
theorem jP:bB ["shares"] ["shares"] (aH dN):=⟨rfl,rfl,rfl,by decide +kernel,rfl,by decide +kernel,by decide +kernel⟩
theorem pV {kk:Nat} (F:l0 K "one_descent_more" "one_descent_more" dN f fd):aQ P w K mg base cQ (kk+1) f fd ["shares"] (dL K LL.bU):=by
 refine gI F jP rfl rfl (fun cdv A outer s H E hr=>?_)
 have nd:=jP.nd
 exact (aX (eR (eM (nD.pe (qY (aF i4 aL))) (sl4 (x4 0) no4 (po4 (aDs i4))))))
noncomputable abbrev e8:Stmt:=top 11
theorem oD:bB ["order", "ahead", "last", "shares", "state", "some", "thing", "further"] ["order", "ahead", "last", "shares"] (aH e8):=⟨rfl,rfl,rfl,by decide +kernel,rfl,by decide +kernel,by decide +kernel⟩
theorem oF {kk:Nat} {g1 g2 g3 g4:Addr} {d1 d2 d3 d4:FuncData} (F:l0 K "find_shares" "find_shares" e8 f fd) (iE:aQ P w K mg base cQ kk g1 d1 ["order", "ahead"] (dL K LL.eK)) (oG:mg "ready_things" = some (.ref g1)) (oH:PySem.W.keepIn K (.ref g1)=true) (oI:Binds K d1 ["order", "ahead"] []) (wF:aQ P w K mg base cQ kk g2 d2 ["one", "other"] (dL K LL.jQ)) (M4:mg "added" = some (.ref g2)) (M5:PySem.W.keepIn K (.ref g2)=true) (M6:Binds K d2 ["one", "other"] []) (fT:aQ P w K mg base cQ kk g3 d3 ["shares"] (dL K LL.bU)) (kL:mg "one_descent_more" = some (.ref g3)) (kM:PySem.W.keepIn K (.ref g3)=true) (kN:Binds K d3 ["shares"] []) (sU:aQ P w K mg base cQ kk g4 d4 ["ahead", "thing"] (dL K LL.gD)) (HV:mg "joined" = some (.ref g4)) (HW:PySem.W.keepIn K (.ref g4)=true) (HX:Binds K d4 ["ahead", "thing"] []) (i5:mg "find_shares" = some (.ref f)) (i6:PySem.W.keepIn K (.ref f)=true) (i7:Binds K fd ["order", "ahead", "last", "shares"] []) (bC:mg "len" = none) (qD:mg "max" = none):∀ n:Nat,aQ P w K mg base cQ (kk+n) f fd ["order", "ahead", "last", "shares"] (YE K (LL.bH n))
 | 0=>aEa
 | n+1=>by
  have lY:=oF (kk:=kk) F iE oG oH oI wF M4 M5 M6 fT kL kM kN sU HV HW HX i5 i6 i7 bC qD n
  have iE:=iE.mono (Nat.le_add_right kk n)
  have wF:=wF.mono (Nat.le_add_right kk n)
  have fT:=fT.mono (Nat.le_add_right kk n)
  have sU:=sU.mono (Nat.le_add_right kk n)
  refine aKD F oD rfl rfl (fun cdv A outer s H E hr=>?_)
  have nd:=oD.nd
  have hu2:(A.deeper (PyProof.Rows.envOfC "find_shares" (aH e8) s.heap.objs.size f cdv)).units+2<cLine:=by have:=hr.un; omega
  exact ⟨_,(FP (dU (i:=4) nd (KA (aF (x4 1) (aF (x4 2) aL))))
  (aE8 (j:=3) hu2 (kW (aB6 hu2 (x4 4) (x4 3))
   (bK (EW (i:=5) nd (UI (nD.pe (qY (aF i4 aL))) (UG rfl qD (aF (gW bC (aF (x4 0) aL)) (aF i4 aL)))))
   (bK (kW (T8 (gW bC (aF (x4 1) aL)) (gW bC (aF (x4 0) aL)))
    (aX (aBW (i:=5) (zD i4) i4))
    lV)
   (bK (ZC 5 (oC rfl PassesOwn.never (oB (bN iE hr oG oH oI (aF (x4 0) (aF (x4 1) aL)))) (jB (i:=6) nd)
    (bK (aB7 (i:=7) (j:=3) lY hr i5 i6 i7 (by decide) nd (CC (x4 0) (CC (bN sU hr HV HW HX (aF (x4 1) (aF (x4 6) aL))) (CC (x4 6) (ZE (j:=3))))))
    (aX (dU (i:=5) nd (bN wF hr M4 M5 M6 (aF (x4 5) (aF (if4 (aBT (x4 2) (x4 6)) (bN fT hr kL kM kN (aF (x4 7) aL)) (x4 7)) aL))))))))
   (aX (aE2 (i:=3) hu2 (zD (x4 5)) (x4 4))))))
   lV) (x4 4)))⟩
noncomputable abbrev gY:Stmt:=top 10
theorem sV:bB ["order", "shares"] ["order"] (aH gY):=⟨rfl,rfl,rfl,by decide +kernel,rfl,by decide +kernel,by decide +kernel⟩
theorem E2 {kk:Nat} {g1:Addr} {d1:FuncData} (F:l0 K "shares_on" "shares_on" gY f fd) (lY:aQ P w K mg base cQ kk g1 d1 ["order", "ahead", "last", "shares"] (YE K (LL.bH 11))) (i5:mg "find_shares" = some (.ref g1)) (i6:PySem.W.keepIn K (.ref g1)=true) (i7:Binds K d1 ["order", "ahead", "last", "shares"] []):aQ P w K mg base cQ (kk+1) f fd ["order"] (dL K LL.gX):=by
 refine gI F sV rfl rfl (fun cdv A outer s H E hr=>?_)
 have nd:=sV.nd
 exact (bK (aE1 (i:=1) nd)
  (bK (aKC (j:=1) lY hr i5 i6 i7 (CC (x4 0) (CC (KA aL) (CC i4 (ZE (j:=1))))))
  (aX (eR (x4 1)))))
noncomputable abbrev cJ:Stmt:=top 9
theorem iI:bB ["order"] ["order"] (aH cJ):=⟨rfl,rfl,rfl,by decide +kernel,rfl,by decide +kernel,by decide +kernel⟩
theorem nM {kk:Nat} {g1:Addr} {d1:FuncData} (F:l0 K "shares_by_descents" "shares_by_descents" cJ f fd) (HY:aQ P w K mg base cQ kk g1 d1 ["order"] (dL K LL.gX)) (HZ:mg "shares_on" = some (.ref g1)) (IA:PySem.W.keepIn K (.ref g1)=true) (IB:Binds K d1 ["order"] []) (bG:mg "tuple" = none):aQ P w K mg base cQ (kk+1) f fd ["order"] (dL K LL.aS):=by
 refine gI F iI rfl rfl (fun cdv A outer s H E hr=>?_)
 have nd:=iI.nd
 have hu2:(A.deeper (PyProof.Rows.envOfC "shares_by_descents" (aH cJ) s.heap.objs.size f cdv)).units+2<cLine:=by have:=hr.un; omega
 exact (aX (eR (iT bG (aF (aKB hu2 (bN HY hr HZ IA IB (aF (x4 0) aL)) (KA (aF (KA aL) (aF i4 aL)))) aL))))
noncomputable abbrev mN:Stmt:=top 15
theorem CH:bB ["x", "m", "many", "step"] ["x", "m"] (aH mN):=⟨rfl,rfl,rfl,by decide +kernel,rfl,by decide +kernel,by decide +kernel⟩
theorem PJ {kk:Nat} (F:l0 K "chosen" "chosen" mN f fd) (aM:mg "range" = none):aQ P w K mg base cQ (kk+1) f fd ["x", "m"] (dL K LL.mD):=by
 refine gI F CH rfl rfl (fun cdv A outer s H E hr=>?_)
 have nd:=CH.nd
 exact (bK (dU (i:=2) nd i4)
  (bK (oC rfl PassesOwn.never (eE aM (x4 1)) (jB (i:=3) nd)
   (aX (dU (i:=2) nd (OQ (nL (x4 2) (pU (x4 0) (x4 3))) (eM (x4 3) i4)))))
  (aX (eR (x4 2)))))
noncomputable abbrev dH:Stmt:=top 17
theorem jC:bB ["shares", "n", "k"] ["shares", "n", "k"] (aH dH):=⟨rfl,rfl,rfl,by decide +kernel,rfl,by decide +kernel,by decide +kernel⟩
theorem oJ {kk:Nat} {g1:Addr} {d1:FuncData} (F:l0 K "sum_over_descents" "sum_over_descents" dH f fd) (UT:aQ P w K mg base cQ kk g1 d1 ["x", "m"] (dL K LL.mD)) (UU:mg "chosen" = some (.ref g1)) (UV:PySem.W.keepIn K (.ref g1)=true) (UW:Binds K d1 ["x", "m"] []) (oK:mg "enumerate" = none) (UX:mg "sum" = none):aQ P w K mg base cQ (kk+1) f fd ["shares", "n", "k"] (dL K LL.bX):=by
 refine gI F jC rfl rfl (fun cdv A outer s H E hr=>?_)
 have nd:=jC.nd
 exact (aX (eR (aJk rfl UX (aF (nD.pe (kK (ls:=["d", "share"]) (fs:=["n", "k"]) (fr:=[1,2]) rfl (KF oK (aF (x4 0) aL)) (fun _ _ _ _ _ _ nd=>KG (i:=0) (j:=1) rfl nd (by decide) (by decide)) (fun _ _ _ _ _ _=>mK) (fun _ _ _ _ _ _=>(nL (x4 1) (bN UT hr UU UV UW (aF (pU (pU (eM (x4 3) (x4 2)) i4) (x4 0)) (aF (x4 2) aL))))))) aL))))
noncomputable abbrev iU:Stmt:=top 16
theorem uS:bB ["order", "k"] ["order", "k"] (aH iU):=⟨rfl,rfl,rfl,by decide +kernel,rfl,by decide +kernel,by decide +kernel⟩
theorem IC {kk:Nat} {g1 g2:Addr} {d1 d2:FuncData} (F:l0 K "count_at" "count_at" iU f fd) (gJ:aQ P w K mg base cQ kk g1 d1 ["shares", "n", "k"] (dL K LL.bX)) (gK:mg "sum_over_descents" = some (.ref g1)) (gL:PySem.W.keepIn K (.ref g1)=true) (gM:Binds K d1 ["shares", "n", "k"] []) (cZ:aQ P w K mg base cQ kk g2 d2 ["order"] (dL K LL.aS)) (dA:mg "shares_by_descents" = some (.ref g2)) (dB:PySem.W.keepIn K (.ref g2)=true) (dC:Binds K d2 ["order"] []) (bC:mg "len" = none):aQ P w K mg base cQ (kk+1) f fd ["order", "k"] (dL K LL.gR):=by
 refine gI F uS rfl rfl (fun cdv A outer s H E hr=>?_)
 have nd:=uS.nd
 exact (aX (eR (bN gJ hr gK gL gM (aF (bN cZ hr dA dB dC (aF (x4 0) aL)) (aF (gW bC (aF (x4 0) aL)) (aF (x4 1) aL))))))
noncomputable abbrev dI:Stmt:=top 19
theorem jD:bB ["values", "firsts", "row"] ["values"] (aH dI):=⟨rfl,rfl,rfl,by decide +kernel,rfl,by decide +kernel,by decide +kernel⟩
theorem oM {kk:Nat} (F:l0 K "first_differences" "first_differences" dI f fd) (bG:mg "tuple" = none) (CG:mg "zip" = none):aQ P w K mg base cQ (kk+1) f fd ["values"] (dL K LL.dF):=by
 refine gI F jD rfl rfl (fun cdv A outer s H E hr=>?_)
 have nd:=jD.nd
 exact (bK (EW (i:=1) nd (qY aL))
  (bK (dU (i:=2) nd (x4 0))
  (bK (aBX PassesOwn.never (u7 (x4 2))
   (bK (sQ (OW (i:=1) (zD (tE (x4 2) i4))))
   (aX (B9 (i:=2) (ls:=["a", "b"]) (fs:=[]) (fr:=[]) nd rfl (aEb CG (aF (x4 2) (aF (sl4 (x4 2) (po4 i4) no4) aL))) (fun _ _ _ _ _ _ nd=>KG (i:=0) (j:=1) rfl nd (by decide) (by decide)) (fun _ _ _ _ _ _=>mK) (fun _ _ _ _ _ _=>(pU (x4 1) (x4 0)))))))
  (aX (eR (iT bG (aF (x4 1) aL)))))))
noncomputable abbrev dW:Stmt:=top 18
theorem kO:bB ["order", "n", "shares"] ["order"] (aH dW):=⟨rfl,rfl,rfl,by decide +kernel,rfl,by decide +kernel,by decide +kernel⟩
theorem rB {kk:Nat} {g1 g2 g3:Addr} {d1 d2 d3:FuncData} (F:l0 K "shares_by_steps" "shares_by_steps" dW f fd) (pW:aQ P w K mg base cQ kk g1 d1 ["values"] (dL K LL.dF)) (pX:mg "first_differences" = some (.ref g1)) (pZ:PySem.W.keepIn K (.ref g1)=true) (p4:Binds K d1 ["values"] []) (gJ:aQ P w K mg base cQ kk g2 d2 ["shares", "n", "k"] (dL K LL.bX)) (gK:mg "sum_over_descents" = some (.ref g2)) (gL:PySem.W.keepIn K (.ref g2)=true) (gM:Binds K d2 ["shares", "n", "k"] []) (cZ:aQ P w K mg base cQ kk g3 d3 ["order"] (dL K LL.aS)) (dA:mg "shares_by_descents" = some (.ref g3)) (dB:PySem.W.keepIn K (.ref g3)=true) (dC:Binds K d3 ["order"] []) (aM:mg "range" = none) (bC:mg "len" = none):aQ P w K mg base cQ (kk+1) f fd ["order"] (dL K LL.cN):=by
 refine gI F kO rfl rfl (fun cdv A outer s H E hr=>?_)
 have nd:=kO.nd
 exact (bK (dU (i:=1) nd (gW bC (aF (x4 0) aL)))
  (bK (dU (i:=2) nd (bN cZ hr dA dB dC (aF (x4 0) aL)))
  (aX (eR (bN pW hr pX pZ p4 (aF (nD.pe (kK (ls:=["k"]) (fs:=["shares", "n"]) (fr:=[2,1]) rfl (eE aM (eM (x4 1) i4)) (fun _ _ _ _ _ _ nd=>iC (i:=0) nd (by decide)) (fun _ _ _ _ _ _=>mK) (fun _ _ _ _ _ _=>(bN gJ hr gK gL gM (aF (x4 1) (aF (x4 2) (aF (x4 0) aL))))))) aL))))))
noncomputable abbrev dY:Stmt:=top 24
theorem kP:bB ["one", "other"] ["one", "other"] (aH dY):=⟨rfl,rfl,rfl,by decide +kernel,rfl,by decide +kernel,by decide +kernel⟩
theorem rC {kk:Nat} {g1:Addr} {d1:FuncData} (F:l0 K "refuse_too_many" "refuse_too_many" dY f fd) (zG:aQ P w K mg base cQ kk g1 d1 ["n"] (dL K eL)) (zH:mg "are_too_many" = some (.ref g1)) (zI:PySem.W.keepIn K (.ref g1)=true) (zJ:Binds K d1 ["n"] []) (bC:mg "len" = none):aQ P w K mg base cQ (kk+1) f fd ["one", "other"] (dL K bQ):=by
 refine gI F kP rfl rfl (fun cdv A outer s H E hr=>?_)
 have nd:=kP.nd
 exact (aX (kW (u7 (bN zG hr zH zI zJ (aF (eM (gW bC (aF (x4 0) aL)) (gW bC (aF (x4 1) aL))) aL)))
   (aX aBV)
   lV))
noncomputable abbrev eP:Stmt:=top 26
theorem mO:bB ["row", "more"] ["row", "more"] (aH eP):=⟨rfl,rfl,rfl,by decide +kernel,rfl,by decide +kernel,by decide +kernel⟩
theorem uB {kk:Nat} (F:l0 K "row_with_more" "row_with_more" eP f fd) (bG:mg "tuple" = none):aQ P w K mg base cQ (kk+1) f fd ["row", "more"] (dL K eO):=by
 refine gI F mO rfl rfl (fun cdv A outer s H E hr=>?_)
 have nd:=mO.nd
 exact (aX (eR (iT bG (aF (nD.pe (kK (ls:=["thing"]) (fs:=["more"]) (fr:=[1]) rfl (oB (x4 0)) (fun _ _ _ _ _ _ nd=>iC (i:=0) nd (by decide)) (fun _ _ _ _ _ _=>mK) (fun _ _ _ _ _ _=>(eM (x4 0) (x4 1))))) aL))))
noncomputable abbrev gZ:Stmt:=top 25
theorem sW:bB ["order", "more"] ["order", "more"] (aH gZ):=⟨rfl,rfl,rfl,by decide +kernel,rfl,by decide +kernel,by decide +kernel⟩
theorem E3 {kk:Nat} {g1:Addr} {d1:FuncData} (F:l0 K "with_more" "with_more" gZ f fd) (vB:aQ P w K mg base cQ kk g1 d1 ["row", "more"] (dL K eO)) (vC:mg "row_with_more" = some (.ref g1)) (vD:PySem.W.keepIn K (.ref g1)=true) (vE:Binds K d1 ["row", "more"] []) (bG:mg "tuple" = none):aQ P w K mg base cQ (kk+1) f fd ["order", "more"] (dL K eG):=by
 refine gI F sW rfl rfl (fun cdv A outer s H E hr=>?_)
 have nd:=sW.nd
 exact (aX (eR (iT bG (aF (nD.pe (kK (ls:=["row"]) (fs:=["more"]) (fr:=[1]) rfl (oB (x4 0)) (fun _ _ _ _ _ _ nd=>iC (i:=0) nd (by decide)) (fun _ _ _ _ _ _=>mK) (fun _ _ _ _ _ _=>(bN vB hr vC vD vE (aF (x4 0) (aF (x4 1) aL)))))) aL))))
noncomputable abbrev fO:Stmt:=top 21
theorem nG:bB ["one", "other"] ["one", "other"] (aH fO):=⟨rfl,rfl,rfl,by decide +kernel,rfl,by decide +kernel,by decide +kernel⟩
theorem vF {kk:Nat} {g1 g2:Addr} {d1 d2:FuncData} (F:l0 K "side_by_side" "side_by_side" fO f fd) (jE:aQ P w K mg base cQ kk g1 d1 ["order", "more"] (dL K eG)) (jF:mg "with_more" = some (.ref g1)) (jG:PySem.W.keepIn K (.ref g1)=true) (jH:Binds K d1 ["order", "more"] []) (eS:aQ P w K mg base cQ kk g2 d2 ["one", "other"] (dL K bQ)) (eT:mg "refuse_too_many" = some (.ref g2)) (eU:PySem.W.keepIn K (.ref g2)=true) (eV:Binds K d2 ["one", "other"] []) (bC:mg "len" = none):aQ P w K mg base cQ (kk+1) f fd ["one", "other"] (dL K fK):=by
 refine gI F nG rfl rfl (fun cdv A outer s H E hr=>?_)
 have nd:=nG.nd
 exact (bK (sQ (zD (bN eS hr eT eU eV (aF (x4 0) (aF (x4 1) aL)))))
  (aX (eR (eM (x4 0) (bN jE hr jF jG jH (aF (x4 1) (aF (gW bC (aF (x4 0) aL)) aL)))))))
noncomputable abbrev gA:Stmt:=top 22
theorem oN:bB ["one", "other", "below"] ["one", "other"] (aH gA):=⟨rfl,rfl,rfl,by decide +kernel,rfl,by decide +kernel,by decide +kernel⟩
theorem zK {kk:Nat} {g1 g2:Addr} {d1 d2:FuncData} (F:l0 K "above_plain" "above_plain" gA f fd) (jE:aQ P w K mg base cQ kk g1 d1 ["order", "more"] (dL K eG)) (jF:mg "with_more" = some (.ref g1)) (jG:PySem.W.keepIn K (.ref g1)=true) (jH:Binds K d1 ["order", "more"] []) (eS:aQ P w K mg base cQ kk g2 d2 ["one", "other"] (dL K bQ)) (eT:mg "refuse_too_many" = some (.ref g2)) (eU:PySem.W.keepIn K (.ref g2)=true) (eV:Binds K d2 ["one", "other"] []) (bC:mg "len" = none) (bG:mg "tuple" = none) (aM:mg "range" = none):aQ P w K mg base cQ (kk+1) f fd ["one", "other"] (dL K fY):=by
 refine gI F oN rfl rfl (fun cdv A outer s H E hr=>?_)
 have nd:=oN.nd
 exact (bK (sQ (zD (bN eS hr eT eU eV (aF (x4 0) (aF (x4 1) aL)))))
  (bK (dU (i:=2) nd (HN rfl bG aM (gW bC (aF (x4 0) aL))))
  (aX (eR (eM (x4 0) (iT bG (aF (nD.pe (kK (ls:=["row"]) (fs:=["below"]) (fr:=[2]) rfl (oB (bN jE hr jF jG jH (aF (x4 1) (aF (gW bC (aF (x4 0) aL)) aL)))) (fun _ _ _ _ _ _ nd=>iC (i:=0) nd (by decide)) (fun _ _ _ _ _ _=>mK) (fun _ _ _ _ _ _=>(eM (x4 1) (x4 0))))) aL)))))))
noncomputable abbrev fP:Stmt:=top 23
theorem nH:bB ["one", "other", "below"] ["one", "other"] (aH fP):=⟨rfl,rfl,rfl,by decide +kernel,rfl,by decide +kernel,by decide +kernel⟩
theorem vG {kk:Nat} {g1 g2:Addr} {d1 d2:FuncData} (F:l0 K "above_strict" "above_strict" fP f fd) (jE:aQ P w K mg base cQ kk g1 d1 ["order", "more"] (dL K eG)) (jF:mg "with_more" = some (.ref g1)) (jG:PySem.W.keepIn K (.ref g1)=true) (jH:Binds K d1 ["order", "more"] []) (eS:aQ P w K mg base cQ kk g2 d2 ["one", "other"] (dL K bQ)) (eT:mg "refuse_too_many" = some (.ref g2)) (eU:PySem.W.keepIn K (.ref g2)=true) (eV:Binds K d2 ["one", "other"] []) (bG:mg "tuple" = none) (bC:mg "len" = none) (aM:mg "range" = none):aQ P w K mg base cQ (kk+1) f fd ["one", "other"] (dL K fL):=by
 refine gI F nH rfl rfl (fun cdv A outer s H E hr=>?_)
 have nd:=nH.nd
 exact (bK (sQ (zD (bN eS hr eT eU eV (aF (x4 0) (aF (x4 1) aL)))))
  (bK (dU (i:=2) nd (EY rfl bG aM (gW bC (aF (x4 1) aL)) (eM (gW bC (aF (x4 1) aL)) (gW bC (aF (x4 0) aL)))))
  (aX (eR (eM (iT bG (aF (nD.pe (kK (ls:=["row"]) (fs:=["below"]) (fr:=[2]) rfl (oB (x4 1)) (fun _ _ _ _ _ _ nd=>iC (i:=0) nd (by decide)) (fun _ _ _ _ _ _=>mK) (fun _ _ _ _ _ _=>(eM (x4 0) (x4 1))))) aL)) (bN jE hr jF jG jH (aF (x4 0) (aF (gW bC (aF (x4 1) aL)) aL))))))))
noncomputable abbrev mP:Stmt:=top 28
theorem CI:bB ["_law_script", "_law_k"] ["_law_script", "_law_k"] (aH mP):=⟨rfl,rfl,rfl,by decide +kernel,rfl,by decide +kernel,by decide +kernel⟩
theorem PK {kk:Nat} (F:l0 K "_law_cell" "_law_cell" mP f fd) (bC:mg "len" = none):aQ P w K mg base cQ (kk+1) f fd ["_law_script", "_law_k"] (dL K LL.fD):=by
 refine gI F CI rfl rfl (fun cdv A outer s H E hr=>?_)
 have nd:=CI.nd
 exact (bK (kW (T8 (gW bC (aF (x4 0) aL)) i4)
   (aX (eR i4))
   lV)
  (aX (eR (tE (x4 0) (sN (x4 1) (gW bC (aF (x4 0) aL)))))))
noncomputable abbrev jW:Stmt:=top 29
theorem zL:bB ["_law_cell_here", "_law_k", "_law_salt", "_law_one", "_law_two"] ["_law_cell_here", "_law_k", "_law_salt"] (aH jW):=⟨rfl,rfl,rfl,by decide +kernel,rfl,by decide +kernel,by decide +kernel⟩
theorem KP {kk:Nat} (F:l0 K "_law_mixed" "_law_mixed" jW f fd):aQ P w K mg base cQ (kk+1) f fd ["_law_cell_here", "_law_k", "_law_salt"] (dL K LL.fE):=by
 refine gI F zL rfl rfl (fun cdv A outer s H E hr=>?_)
 have nd:=zL.nd
 exact (bK (dU (i:=3) nd (sN (nL (eM (eM (eM (x4 0) (nL (nL i4 (x4 1)) (x4 1))) (nL i4 (x4 1))) (x4 2)) i4) i4))
  (bK (dU (i:=4) nd (sN (eM (eM (nL (x4 3) (eM (OQ (x4 3) i4) i4)) (nL i4 (x4 1))) (x4 2)) i4))
  (aX (eR (sN (nL (x4 4) i4) i4)))))
noncomputable abbrev jX:Stmt:=top 30
theorem zM:bB ["_law_cell_here", "_law_many", "_law_salt", "_law_found", "_law_left", "_law_k"] ["_law_cell_here", "_law_many", "_law_salt"] (aH jX):=⟨rfl,rfl,rfl,by decide +kernel,rfl,by decide +kernel,by decide +kernel⟩
theorem KQ {kk:Nat} {g1:Addr} {d1:FuncData} (F:l0 K "_law_draws" "_law_draws" jX f fd) (uC:aQ P w K mg base cQ kk g1 d1 ["_law_cell_here", "_law_k", "_law_salt"] (dL K LL.fE)) (uD:mg "_law_mixed" = some (.ref g1)) (uE:PySem.W.keepIn K (.ref g1)=true) (uF:Binds K d1 ["_law_cell_here", "_law_k", "_law_salt"] []) (aM:mg "range" = none):aQ P w K mg base cQ (kk+1) f fd ["_law_cell_here", "_law_many", "_law_salt"] (dL K LL.fF):=by
 refine gI F zM rfl rfl (fun cdv A outer s H E hr=>?_)
 have nd:=zM.nd
 exact (bK (EW (i:=3) nd (qY aL))
  (bK (dU (i:=4) nd i4)
  (bK (kW (aDn (x4 0) (XZ i4 i4))
   (aX (dU (i:=4) nd (x4 0)))
   lV)
  (bK (oC rfl PassesOwn.never (eE aM (x4 1)) (jB (i:=5) nd)
   (aX (kW (aBT (x4 4) i4)
    (bK (sQ (OW (i:=3) (zD (sN (x4 4) i4))))
    (aX (dU (i:=4) nd (OQ (x4 4) i4))))
    (aX (sQ (OW (i:=3) (zD (bN uC hr uD uE uF (aF (x4 0) (aF (x4 5) (aF (x4 2) aL)))))))))))
  (aX (eR (x4 3)))))))
noncomputable abbrev iV:Stmt:=top 31
theorem zN:bB ["_law_draws_here", "_law_n", "_law_thick", "_law_rest", "_law_word", "_law_k", "_law_low", "_law_at", "_law_j", "_law_under", "_law_i"] ["_law_draws_here", "_law_n", "_law_thick"] (aH iV):=⟨rfl,rfl,rfl,by decide +kernel,rfl,by decide +kernel,by decide +kernel⟩
theorem KR {kk:Nat} (F:l0 K "_law_order" "_law_order" iV f fd) (aM:mg "range" = none) (mM:mg "sorted" = none) (bG:mg "tuple" = none) (bC:mg "len" = none) (KS:mg "list" = none):aQ P w K mg base cQ (kk+1) f fd ["_law_draws_here", "_law_n", "_law_thick"] (dL K LL.jU):=by
 refine gI F zN rfl rfl (fun cdv A outer s H E hr=>?_)
 have nd:=zN.nd
 have hu:(A.deeper (PyProof.Rows.envOfC "_law_order" (aH iV) s.heap.objs.size f cdv)).units+1<cLine:=by have:=hr.un; omega
 exact (bK (EW (i:=3) nd (KB rfl KS aM (aF (x4 1) aL)))
  (bK (EW (i:=4) nd (qY aL))
  (bK (oC rfl PassesOwn.never (eE aM (x4 1)) (jB (i:=5) nd)
   (aX (sQ (OW (i:=4) (aJz (i:=3) (px4 (sN (tE (x4 0) (x4 5)) (gW bC (aF (x4 3) aL)))))))))
  (bK (UE (i:=6) nd)
  (bK (dU (i:=7) nd (x4 1))
  (bK (oC rfl PassesOwn.never (eE aM (x4 1)) (jB (i:=8) nd)
   (bK (dU (i:=9) nd (nD.pe (qY aL)))
   (bK (oC rfl PassesOwn.never (eE aM (x4 8)) (jB (i:=10) nd)
    (bK (kW (aJ2 (sN (tE (x4 0) (x4 7)) i4) (x4 2))
     (aX (aEB (i:=9) nd (aDi (x4 9) (nD.pe (kK (ls:=["_law_a"]) (fs:=["_law_under"]) (fr:=[9]) rfl (oB (eM (aDt hu (x4 6) (tE (x4 4) (x4 10))) (nD.pe (qY (aF (tE (x4 4) (x4 10)) aL))))) (fun _ _ _ _ _ _ nd=>iC (i:=0) nd (by decide)) (fun _ _ _ _ _ _=>EV (T9 (x4 0) (x4 1))) (fun _ _ _ _ _ _=>(x4 0)))))))
     lV)
    (aX (dU (i:=7) nd (eM (x4 7) i4)))))
   (aX (aEC (i:=6) hu (zD (x4 9)) (tE (x4 4) (x4 8)))))))
  (aX (eR (iT bG (aF (nD.pe (kK (ls:=["_law_b"]) (fs:=["_law_low"]) (fr:=[6]) rfl (eE aM (x4 1)) (fun _ _ _ _ _ _ nd=>iC (i:=0) nd (by decide)) (fun _ _ _ _ _ _=>mK) (fun _ _ _ _ _ _=>(iT bG (aF (nD.pe (X3 mM (aF (aDt hu (x4 1) (x4 0)) aL))) aL))))) aL))))))))))
noncomputable abbrev jY:Stmt:=top 32
theorem zO:bB ["_law_script", "_law_k", "_law_most", "_law_salt", "_law_head", "_law_n", "_law_draws_here"] ["_law_script", "_law_k", "_law_most", "_law_salt"] (aH jY):=⟨rfl,rfl,rfl,by decide +kernel,rfl,by decide +kernel,by decide +kernel⟩
theorem KU {kk:Nat} {g1 g2 g3:Addr} {d1 d2 d3:FuncData} (F:l0 K "_law_drawn" "_law_drawn" jY f fd) (PM:aQ P w K mg base cQ kk g1 d1 ["_law_draws_here", "_law_n", "_law_thick"] (dL K LL.jU)) (PN:mg "_law_order" = some (.ref g1)) (PP:PySem.W.keepIn K (.ref g1)=true) (PQ:Binds K d1 ["_law_draws_here", "_law_n", "_law_thick"] []) (pL:aQ P w K mg base cQ kk g2 d2 ["_law_cell_here", "_law_many", "_law_salt"] (dL K LL.fF)) (pM:mg "_law_draws" = some (.ref g2)) (pN:PySem.W.keepIn K (.ref g2)=true) (pO:Binds K d2 ["_law_cell_here", "_law_many", "_law_salt"] []) (oO:aQ P w K mg base cQ kk g3 d3 ["_law_script", "_law_k"] (dL K LL.fD)) (oP:mg "_law_cell" = some (.ref g3)) (oQ:PySem.W.keepIn K (.ref g3)=true) (oR:Binds K d3 ["_law_script", "_law_k"] []):aQ P w K mg base cQ (kk+1) f fd ["_law_script", "_law_k", "_law_most", "_law_salt"] (dL K LL.fG):=by
 refine gI F zO rfl rfl (fun cdv A outer s H E hr=>?_)
 have nd:=zO.nd
 exact (bK (dU (i:=4) nd (bN pL hr pM pN pO (aF (bN oO hr oP oQ oR (aF (x4 0) (aF (x4 1) aL))) (aF i4 (aF (x4 3) aL)))))
  (bK (dU (i:=5) nd (sN (tE (x4 4) i4) (eM (x4 2) i4)))
  (bK (dU (i:=6) nd (bN pL hr pM pN pO (aF (bN oO hr oP oQ oR (aF (x4 0) (aF (eM (x4 1) i4) aL))) (aF (eM (x4 5) (OQ (nL (x4 5) (pU (x4 5) i4)) i4)) (aF (eM (x4 3) i4) aL)))))
  (aX (eR (bN PM hr PN PP PQ (aF (x4 6) (aF (x4 5) (aF (tE (nD.pe (qY (aF i4 (aF i4 (aF i4 (aF i4 (aF i4 (aF i4 (aF i4 (aF i4 aL)))))))))) (sN (tE (x4 4) i4) i4)) aL)))))))))
noncomputable abbrev mQ:Stmt:=top 33
theorem CJ:bB ["_law_found", "_law_due"] ["_law_found", "_law_due"] (aH mQ):=⟨rfl,rfl,rfl,by decide +kernel,rfl,by decide +kernel,by decide +kernel⟩
theorem CK {kk:Nat} (F:l0 K "_law_same" "_law_same" mQ f fd) (jI:mg "_law_same" = some (.ref f)) (jJ:PySem.W.keepIn K (.ref f)=true) (jK:Binds K fd ["_law_found", "_law_due"] []) (dE:mg "isinstance" = none) (M7:mg "str" = none) (sY:mg "int" = none) (uG:mg "bool" = none) (bG:mg "tuple" = none) (bC:mg "len" = none) (aM:mg "range" = none) (qC:mg "all" = none):∀ n:Nat,aQ P w K mg base cQ (kk+n) f fd ["_law_found", "_law_due"] (dL K (LL.bR n))
 | 0=>aEF
 | n+1=>by
  have kQ:=CK (kk:=kk) F jI jJ jK dE M7 sY uG bG bC aM qC n
  refine gI F CJ rfl rfl (fun cdv A outer s H E hr=>?_)
  have nd:=CJ.nd
  exact (bK (kW (u7 (HJ J4.t dE bG PyProof.Rows.boot_tuple (x4 1)))
   (bK (kW (U2.pt (aJ8 (HG (u7 (HJ J4.t dE bG PyProof.Rows.boot_tuple (x4 0)))) (aJ6 (aJ3 (gW bC (aF (x4 0) aL)) (gW bC (aF (x4 1) aL))))))
    (aX (eR b4))
    lV)
   (aX (eR (aBZ rfl qC (aF (nD.pe (kK (ls:=["_law_k"]) (fs:=["_law_found", "_law_due"]) (fr:=[0,1]) rfl (eE aM (gW bC (aF (x4 1) aL))) (fun _ _ _ _ _ _ nd=>iC (i:=0) nd (by decide)) (fun _ _ _ _ _ _=>mK) (fun _ _ _ _ _ _=>(bN kQ hr jI jJ jK (aF (tE (x4 1) (x4 0)) (aF (tE (x4 2) (x4 0)) aL)))))) aL)))))
   lV)
  (bK (kW (aJ4 (x4 1) n4)
   (aX (eR (is4 (x4 0) n4)))
   lV)
  (bK (kW (u7 (HJ J4.b dE uG PyProof.Rows.boot_bool (x4 1)))
   (aX (eR (UA (HJ J4.b dE uG PyProof.Rows.boot_bool (x4 0)) (X2 (eq4 (x4 0) (x4 1))))))
   lV)
  (bK (kW (u7 (HJ J4.i dE sY PyProof.Rows.boot_int (x4 1)))
   (aX (eR (UA (HJ J4.i dE sY PyProof.Rows.boot_int (x4 0)) (UA (aJb (HJ J4.b dE uG PyProof.Rows.boot_bool (x4 0))) (X2 (eq4 (x4 0) (x4 1)))))))
   lV)
  (aX (eR (UA (HJ J4.s dE M7 PyProof.Rows.boot_str (x4 0)) (X2 (eq4 (x4 0) (x4 1))))))))))
noncomputable abbrev jZ:Stmt:=top 34
theorem zP:bB ["_law_cell_here", "_law_most", "_law_salt", "_law_found", "_law_k"] ["_law_cell_here", "_law_most", "_law_salt"] (aH jZ):=⟨rfl,rfl,rfl,by decide +kernel,rfl,by decide +kernel,by decide +kernel⟩
theorem KW {kk:Nat} {g1:Addr} {d1:FuncData} (F:l0 K "_law_great" "_law_great" jZ f fd) (uC:aQ P w K mg base cQ kk g1 d1 ["_law_cell_here", "_law_k", "_law_salt"] (dL K LL.fE)) (uD:mg "_law_mixed" = some (.ref g1)) (uE:PySem.W.keepIn K (.ref g1)=true) (uF:Binds K d1 ["_law_cell_here", "_law_k", "_law_salt"] []) (aM:mg "range" = none):aQ P w K mg base cQ (kk+1) f fd ["_law_cell_here", "_law_most", "_law_salt"] (dL K LL.iL):=by
 refine gI F zP rfl rfl (fun cdv A outer s H E hr=>?_)
 have nd:=zP.nd
 exact (bK (kW (aDn (x4 0) (XZ i4 i4))
   (aX (eR (sN (OQ (x4 0) i4) (x4 1))))
   lV)
  (bK (dU (i:=3) nd i4)
  (bK (oC rfl PassesOwn.never (eE aM i4) (jB (i:=4) nd)
   (aX (dU (i:=3) nd (eM (nL (x4 3) i4) (bN uC hr uD uE uF (aF (x4 0) (aF (x4 4) (aF (x4 2) aL))))))))
  (aX (eR (sN (x4 3) (x4 1)))))))
noncomputable abbrev iW:Stmt:=top 35
theorem uT:bB ["_law_order_here", "_law_words", "_law_step", "_law_longer", "_law_word", "_law_b"] ["_law_order_here"] (aH iW):=⟨rfl,rfl,rfl,by decide +kernel,rfl,by decide +kernel,by decide +kernel⟩
theorem ID {kk:Nat} (F:l0 K "_law_goings" "_law_goings" iW f fd) (bC:mg "len" = none) (aM:mg "range" = none) (qC:mg "all" = none):aQ P w K mg base cQ (kk+1) f fd ["_law_order_here"] (dL K LL.gS):=by
 refine gI F uT rfl rfl (fun cdv A outer s H E hr=>?_)
 have nd:=uT.nd
 exact (bK (dU (i:=1) nd (nD.pe (qY (aF (KA aL) aL))))
  (bK (oC rfl PassesOwn.never (eE aM (gW bC (aF (x4 0) aL))) (jB (i:=2) nd)
   (bK (EW (i:=3) nd (qY aL))
   (bK (oC rfl PassesOwn.never (oB (x4 1)) (jB (i:=4) nd)
    (aX (oC rfl PassesOwn.never (eE aM (gW bC (aF (x4 0) aL))) (jB (i:=5) nd)
     (aX (kW (U2.pt (aDr (T9 (x4 5) (x4 4)) (aDq (u7 (aBZ rfl qC (aF (nD.pe (kK (ls:=["_law_a"]) (fs:=["_law_word"]) (fr:=[4]) rfl (oB (tE (x4 0) (x4 5))) (fun _ _ _ _ _ _ nd=>iC (i:=0) nd (by decide)) (fun _ _ _ _ _ _=>mK) (fun _ _ _ _ _ _=>(in4 (x4 0) (x4 1))))) aL))))))
      (aX (sQ (OW (i:=3) (zD (eM (x4 4) (KA (aF (x4 5) aL)))))))
      lV)))))
   (aX (ZC 3 (dU (i:=1) nd (x4 3)))))))
  (aX (eR (x4 1)))))
noncomputable abbrev gG:Stmt:=top 36
theorem qE:bB ["_law_word"] ["_law_word"] (aH gG):=⟨rfl,rfl,rfl,by decide +kernel,rfl,by decide +kernel,by decide +kernel⟩
theorem AT {kk:Nat} (F:l0 K "_law_descents" "_law_descents" gG f fd) (bC:mg "len" = none) (aM:mg "range" = none):aQ P w K mg base cQ (kk+1) f fd ["_law_word"] (dL K fS):=by
 refine gI F qE rfl rfl (fun cdv A outer s H E hr=>?_)
 have nd:=qE.nd
 exact (aX (eR (nD.pe (kK (ls:=["_law_k"]) (fs:=["_law_word"]) (fr:=[0]) rfl (eE aM (pU (gW bC (aF (x4 0) aL)) i4)) (fun _ _ _ _ _ _ nd=>iC (i:=0) nd (by decide)) (fun _ _ _ _ _ _=>EV (aBT (tE (x4 1) (x4 0)) (tE (x4 1) (eM (x4 0) i4)))) (fun _ _ _ _ _ _=>(x4 0))))))
noncomputable abbrev iX:Stmt:=top 37
theorem uU:bB ["_law_x", "_law_m", "_law_top", "_law_low", "_law_k"] ["_law_x", "_law_m"] (aH iX):=⟨rfl,rfl,rfl,by decide +kernel,rfl,by decide +kernel,by decide +kernel⟩
theorem IE {kk:Nat} (F:l0 K "_law_chosen" "_law_chosen" iX f fd) (aM:mg "range" = none):aQ P w K mg base cQ (kk+1) f fd ["_law_x", "_law_m"] (dL K LL.dM):=by
 refine gI F uU rfl rfl (fun cdv A outer s H E hr=>?_)
 have nd:=uU.nd
 exact (bK (dU (i:=2) nd i4)
  (bK (dU (i:=3) nd i4)
  (bK (oC rfl PassesOwn.never (eE aM (x4 1)) (jB (i:=4) nd)
   (bK (dU (i:=2) nd (nL (x4 2) (pU (x4 0) (x4 4))))
   (aX (dU (i:=3) nd (nL (x4 3) (eM (x4 4) i4))))))
  (aX (eR (OQ (x4 2) (x4 3)))))))
noncomputable abbrev iY:Stmt:=top 38
theorem uV:bB ["_law_order_here", "_law_found", "_law_word", "_law_many"] ["_law_order_here"] (aH iY):=⟨rfl,rfl,rfl,by decide +kernel,rfl,by decide +kernel,by decide +kernel⟩
theorem IF {kk:Nat} {g1 g2:Addr} {d1 d2:FuncData} (F:l0 K "_law_shares" "_law_shares" iY f fd) (KY:aQ P w K mg base cQ kk g1 d1 ["_law_order_here"] (dL K LL.gS)) (KZ:mg "_law_goings" = some (.ref g1)) (K0:PySem.W.keepIn K (.ref g1)=true) (K1:Binds K d1 ["_law_order_here"] []) (E4:aQ P w K mg base cQ kk g2 d2 ["_law_word"] (dL K fS)) (E5:mg "_law_descents" = some (.ref g2)) (E6:PySem.W.keepIn K (.ref g2)=true) (E7:Binds K d2 ["_law_word"] []) (bC:mg "len" = none) (qD:mg "max" = none):aQ P w K mg base cQ (kk+1) f fd ["_law_order_here"] (dL K gU):=by
 refine gI F uV rfl rfl (fun cdv A outer s H E hr=>?_)
 have nd:=uV.nd
 exact (bK (EW (i:=1) nd (UI (nD.pe (qY (aF i4 aL))) (UG rfl qD (aF i4 (aF (gW bC (aF (x4 0) aL)) aL)))))
  (bK (oC rfl PassesOwn.never (oB (bN KY hr KZ K0 K1 (aF (x4 0) aL))) (jB (i:=2) nd)
   (bK (dU (i:=3) nd (gW bC (aF (bN E4 hr E5 E6 E7 (aF (x4 2) aL)) aL)))
   (aX (aBW (i:=1) (px4 (eM (tE (x4 1) (x4 3)) i4)) (x4 3)))))
  (aX (eR (x4 1)))))
noncomputable abbrev j2:Stmt:=top 39
theorem zQ:bB ["_law_shares_here", "_law_n", "_law_k", "_law_total", "_law_d"] ["_law_shares_here", "_law_n", "_law_k"] (aH j2):=⟨rfl,rfl,rfl,by decide +kernel,rfl,by decide +kernel,by decide +kernel⟩
theorem K2 {kk:Nat} {g1:Addr} {d1:FuncData} (F:l0 K "_law_value" "_law_value" j2 f fd) (rD:aQ P w K mg base cQ kk g1 d1 ["_law_x", "_law_m"] (dL K LL.dM)) (rE:mg "_law_chosen" = some (.ref g1)) (rF:PySem.W.keepIn K (.ref g1)=true) (rG:Binds K d1 ["_law_x", "_law_m"] []) (bC:mg "len" = none) (aM:mg "range" = none):aQ P w K mg base cQ (kk+1) f fd ["_law_shares_here", "_law_n", "_law_k"] (dL K fW):=by
 refine gI F zQ rfl rfl (fun cdv A outer s H E hr=>?_)
 have nd:=zQ.nd
 exact (bK (dU (i:=3) nd i4)
  (bK (oC rfl PassesOwn.never (eE aM (gW bC (aF (x4 0) aL))) (jB (i:=4) nd)
   (aX (dU (i:=3) nd (eM (x4 3) (nL (tE (x4 0) (x4 4)) (bN rD hr rE rF rG (aF (pU (pU (eM (x4 2) (x4 1)) i4) (x4 4)) (aF (x4 1) aL))))))))
  (aX (eR (x4 3)))))
noncomputable abbrev j3:Stmt:=top 40
theorem zR:bB ["_law_shares_here", "_law_n", "_law_found", "_law_j", "_law_total", "_law_d"] ["_law_shares_here", "_law_n"] (aH j3):=⟨rfl,rfl,rfl,by decide +kernel,rfl,by decide +kernel,by decide +kernel⟩
theorem K3 {kk:Nat} {g1:Addr} {d1:FuncData} (F:l0 K "_law_steps" "_law_steps" j3 f fd) (rD:aQ P w K mg base cQ kk g1 d1 ["_law_x", "_law_m"] (dL K LL.dM)) (rE:mg "_law_chosen" = some (.ref g1)) (rF:PySem.W.keepIn K (.ref g1)=true) (rG:Binds K d1 ["_law_x", "_law_m"] []) (aM:mg "range" = none) (UY:mg "min" = none):aQ P w K mg base cQ (kk+1) f fd ["_law_shares_here", "_law_n"] (dL K iN):=by
 refine gI F zR rfl rfl (fun cdv A outer s H E hr=>?_)
 have nd:=zR.nd
 exact (bK (kW (T8 (x4 1) i4)
   (aX (eR (nD.pe (qY (aF i4 aL)))))
   lV)
  (bK (EW (i:=2) nd (qY (aF i4 aL)))
  (bK (oC rfl PassesOwn.never (X4 aM i4 (eM (x4 1) i4)) (jB (i:=3) nd)
   (bK (dU (i:=4) nd i4)
   (bK (oC rfl PassesOwn.never (eE aM (aEO rfl UY (aF (x4 3) (aF (x4 1) aL)))) (jB (i:=5) nd)
    (aX (dU (i:=4) nd (eM (x4 4) (nL (tE (x4 0) (x4 5)) (bN rD hr rE rF rG (aF (pU (pU (x4 1) i4) (x4 5)) (aF (pU (pU (x4 3) i4) (x4 5)) aL))))))))
   (aX (sQ (OW (i:=2) (zD (x4 4))))))))
  (aX (eR (x4 2))))))
noncomputable abbrev j4:Stmt:=top 41
theorem zS:bB ["_law_one", "_law_other", "_law_more", "_law_many", "_law_found", "_law_i", "_law_j", "_law_at"] ["_law_one", "_law_other", "_law_more", "_law_many"] (aH j4):=⟨rfl,rfl,rfl,by decide +kernel,rfl,by decide +kernel,by decide +kernel⟩
theorem K4 {kk:Nat} (F:l0 K "_law_times" "_law_times" j4 f fd) (bC:mg "len" = none) (aM:mg "range" = none):aQ P w K mg base cQ (kk+1) f fd ["_law_one", "_law_other", "_law_more", "_law_many"] (dL K gF):=by
 refine gI F zS rfl rfl (fun cdv A outer s H E hr=>?_)
 have nd:=zS.nd
 exact (bK (EW (i:=4) nd (UI (nD.pe (qY (aF i4 aL))) (x4 3)))
  (bK (oC rfl PassesOwn.never (eE aM (gW bC (aF (x4 0) aL))) (jB (i:=5) nd)
   (aX (oC rfl PassesOwn.never (eE aM (gW bC (aF (x4 1) aL))) (jB (i:=6) nd)
    (bK (dU (i:=7) nd (eM (eM (x4 5) (x4 6)) (x4 2)))
    (aX (kW (X1 aCe YT aDp aDo i4 (x4 7) (x4 3))
     (aX (aBW (i:=4) (px4 (eM (tE (x4 4) (x4 7)) (nL (tE (x4 0) (x4 5)) (tE (x4 1) (x4 6))))) (x4 7)))
     lV))))))
  (aX (eR (x4 4)))))
noncomputable abbrev sZ:Stmt:=top 42
theorem UZ:bB ["_law_script", "_law_head", "_law_one", "_law_other", "_law_k", "_law_p", "_law_q", "_law_w", "_law_v", "_law_due", "_law_s", "_law_t", "_law_seam", "_law_plain", "_law_strict", "_law_many", "_law_more"] ["_law_script"] (aH sZ):=⟨rfl,rfl,rfl,by decide +kernel,rfl,by decide +kernel,by decide +kernel⟩
theorem aB8 {kk:Nat} {g1 g2 g3 g4 g5 g6 g7 g8 g9 g10 g11 g12 g13 g14 g15:Addr} {d1 d2 d3 d4 d5 d6 d7 d8 d9 d10 d11 d12 d13 d14 d15:FuncData} (F:l0 K "law" "law" sZ f fd) (kQ:aQ P w K mg base cQ kk g1 d1 ["_law_found", "_law_due"] (dL K (LL.bR 6))) (jI:mg "_law_same" = some (.ref g1)) (jJ:PySem.W.keepIn K (.ref g1)=true) (jK:Binds K d1 ["_law_found", "_law_due"] []) (lE:aQ P w K mg base cQ kk g2 d2 ["order"] (dL K LL.cN)) (lF:mg "shares_by_steps" = some (.ref g2)) (lG:PySem.W.keepIn K (.ref g2)=true) (lH:Binds K d2 ["order"] []) (pP:aQ P w K mg base cQ kk g3 d3 ["_law_one", "_law_other", "_law_more", "_law_many"] (dL K gF)) (pQ:mg "_law_times" = some (.ref g3)) (pR:PySem.W.keepIn K (.ref g3)=true) (pS:Binds K d3 ["_law_one", "_law_other", "_law_more", "_law_many"] []) (cZ:aQ P w K mg base cQ kk g4 d4 ["order"] (dL K LL.aS)) (dA:mg "shares_by_descents" = some (.ref g4)) (dB:PySem.W.keepIn K (.ref g4)=true) (dC:Binds K d4 ["order"] []) (zT:aQ P w K mg base cQ kk g5 d5 ["one", "other"] (dL K fL)) (zU:mg "above_strict" = some (.ref g5)) (zV:PySem.W.keepIn K (.ref g5)=true) (zW:Binds K d5 ["one", "other"] []) (AU:aQ P w K mg base cQ kk g6 d6 ["one", "other"] (dL K fY)) (AV:mg "above_plain" = some (.ref g6)) (AW:PySem.W.keepIn K (.ref g6)=true) (AX:Binds K d6 ["one", "other"] []) (CL:aQ P w K mg base cQ kk g7 d7 ["_law_shares_here", "_law_n"] (dL K iN)) (CM:mg "_law_steps" = some (.ref g7)) (CN:PySem.W.keepIn K (.ref g7)=true) (CO:Binds K d7 ["_law_shares_here", "_law_n"] []) (K5:aQ P w K mg base cQ kk g8 d8 ["order", "k"] (dL K LL.gR)) (K6:mg "count_at" = some (.ref g8)) (K7:PySem.W.keepIn K (.ref g8)=true) (K8:Binds K d8 ["order", "k"] []) (zX:aQ P w K mg base cQ kk g9 d9 ["one", "other"] (dL K fK)) (zY:mg "side_by_side" = some (.ref g9)) (zZ:PySem.W.keepIn K (.ref g9)=true) (AA:Binds K d9 ["one", "other"] []) (CP:aQ P w K mg base cQ kk g10 d10 ["_law_shares_here", "_law_n", "_law_k"] (dL K fW)) (CQ:mg "_law_value" = some (.ref g10)) (CS:PySem.W.keepIn K (.ref g10)=true) (CT:Binds K d10 ["_law_shares_here", "_law_n", "_law_k"] []) (AB:aQ P w K mg base cQ kk g11 d11 ["_law_order_here"] (dL K gU)) (AC:mg "_law_shares" = some (.ref g11)) (AD:PySem.W.keepIn K (.ref g11)=true) (AE:Binds K d11 ["_law_order_here"] []) (PR:aQ P w K mg base cQ kk g12 d12 ["_law_cell_here", "_law_most", "_law_salt"] (dL K LL.iL)) (PU:mg "_law_great" = some (.ref g12)) (PV:PySem.W.keepIn K (.ref g12)=true) (PX:Binds K d12 ["_law_cell_here", "_law_most", "_law_salt"] []) (oO:aQ P w K mg base cQ kk g13 d13 ["_law_script", "_law_k"] (dL K LL.fD)) (oP:mg "_law_cell" = some (.ref g13)) (oQ:PySem.W.keepIn K (.ref g13)=true) (oR:Binds K d13 ["_law_script", "_law_k"] []) (CU:aQ P w K mg base cQ kk g14 d14 ["_law_script", "_law_k", "_law_most", "_law_salt"] (dL K LL.fG)) (CV:mg "_law_drawn" = some (.ref g14)) (CW:PySem.W.keepIn K (.ref g14)=true) (CY:Binds K d14 ["_law_script", "_law_k", "_law_most", "_law_salt"] []) (pL:aQ P w K mg base cQ kk g15 d15 ["_law_cell_here", "_law_many", "_law_salt"] (dL K LL.fF)) (pM:mg "_law_draws" = some (.ref g15)) (pN:PySem.W.keepIn K (.ref g15)=true) (pO:Binds K d15 ["_law_cell_here", "_law_many", "_law_salt"] []) (bG:mg "tuple" = none) (aM:mg "range" = none) (qD:mg "max" = none) (sY:mg "int" = none) (bC:mg "len" = none):aQ P w K mg base cQ (kk+1) f fd ["_law_script"] (dL K rR):=by
 refine gI F UZ rfl rfl (fun cdv A outer s H E hr=>?_)
 have nd:=UZ.nd
 exact (bK (dU (i:=1) nd (bN pL hr pM pN pO (aF (bN oO hr oP oQ oR (aF (x4 0) (aF i4 aL))) (aF i4 (aF i4 aL)))))
  (bK (dU (i:=2) nd (bN CU hr CV CW CY (aF (x4 0) (aF i4 (aF (tE (nD.pe (qY (aF i4 (aF i4 aL)))) (aEL rfl sY (aF (eq4 (sN (tE (x4 1) i4) i4) i4) aL))) (aF i4 aL))))))
  (bK (dU (i:=3) nd (bN CU hr CV CW CY (aF (x4 0) (aF i4 (aF i4 (aF i4 aL))))))
  (bK (dU (i:=4) nd (pU (sN (tE (x4 1) i4) i4) i4))
  (bK (kW (T8 (sN (tE (x4 1) i4) i4) i4)
   (aX (dU (i:=4) nd (eM (pU (bN PR hr PU PV PX (aF (bN oO hr oP oQ oR (aF (x4 0) (aF i4 aL))) (aF (pU (nL i4 (XZ i4 i4)) i4) (aF i4 aL)))) (XZ i4 i4)) i4)))
   lV)
  (bK (dU (i:=5) nd (gW bC (aF (x4 2) aL)))
  (bK (dU (i:=6) nd (gW bC (aF (x4 3) aL)))
  (bK (dU (i:=7) nd (bN AB hr AC AD AE (aF (x4 2) aL)))
  (bK (dU (i:=8) nd (bN AB hr AC AD AE (aF (x4 3) aL)))
  (bK (dU (i:=9) nd (nL (bN CP hr CQ CS CT (aF (x4 7) (aF (x4 5) (aF (x4 4) aL)))) (bN CP hr CQ CS CT (aF (x4 8) (aF (x4 6) (aF (x4 4) aL))))))
  (bK (kW (HG (u7 (bN kQ hr jI jJ jK (aF (bN K5 hr K6 K7 K8 (aF (bN zX hr zY zZ AA (aF (x4 2) (aF (x4 3) aL))) (aF (x4 4) aL))) (aF (x4 9) aL)))))
   (aX (eR b4))
   lV)
  (bK (dU (i:=10) nd (bN CL hr CM CN CO (aF (x4 7) (aF (x4 5) aL))))
  (bK (dU (i:=11) nd (bN CL hr CM CN CO (aF (x4 8) (aF (x4 6) aL))))
  (bK (dU (i:=12) nd (aEL rfl sY (aF (UA (gt4 (x4 5) i4) (X2 (gt4 (x4 6) i4))) aL)))
  (bK (dU (i:=13) nd (bN AU hr AV AW AX (aF (x4 2) (aF (x4 3) aL))))
  (bK (dU (i:=14) nd (bN zT hr zU zV zW (aF (x4 2) (aF (x4 3) aL))))
  (bK (dU (i:=15) nd (UG rfl qD (aF i4 (aF (eM (x4 5) (x4 6)) aL))))
  (bK (kW (HG (u7 (bN kQ hr jI jJ jK (aF (bN cZ hr dA dB dC (aF (x4 13) aL)) (aF (iT bG (aF (bN pP hr pQ pR pS (aF (x4 7) (aF (x4 8) (aF i4 (aF (x4 15) aL))))) aL)) aL)))))
   (aX (eR b4))
   lV)
  (bK (kW (HG (u7 (bN kQ hr jI jJ jK (aF (bN cZ hr dA dB dC (aF (x4 14) aL)) (aF (iT bG (aF (bN pP hr pQ pR pS (aF (x4 7) (aF (x4 8) (aF (x4 12) (aF (x4 15) aL))))) aL)) aL)))))
   (aX (eR b4))
   lV)
  (bK (dU (i:=9) nd (bN pP hr pQ pR pS (aF (x4 10) (aF (x4 11) (aF i4 (aF (eM (eM (x4 5) (x4 6)) i4) aL))))))
  (bK (kW (HG (u7 (bN kQ hr jI jJ jK (aF (bN lE hr lF lG lH (aF (x4 14) aL)) (aF (iT bG (aF (x4 9) aL)) aL)))))
   (aX (eR b4))
   lV)
  (bK (kW (T8 (x4 12) i4)
   (bK (dU (i:=16) nd (bN pP hr pQ pR pS (aF (x4 10) (aF (x4 11) (aF (aDs i4) (aF (eM (eM (x4 5) (x4 6)) i4) aL))))))
   (aX (dU (i:=9) nd (nD.pe (kK (ls:=["_law_m"]) (fs:=["_law_due", "_law_more"]) (fr:=[9,16]) rfl (eE aM (eM (eM (x4 5) (x4 6)) i4)) (fun _ _ _ _ _ _ nd=>iC (i:=0) nd (by decide)) (fun _ _ _ _ _ _=>mK) (fun _ _ _ _ _ _=>(eM (tE (x4 1) (x4 0)) (tE (x4 2) (x4 0)))))))))
   lV)
  (aX (eR (bN kQ hr jI jJ jK (aF (bN lE hr lF lG lH (aF (x4 13) aL)) (aF (iT bG (aF (x4 9) aL)) aL)))))))))))))))))))))))))))
end
theorem jT:∀ (us:List Value),us.length=1 -> ∃ a0,us=[a0]
 | [a0],_=>⟨a0,rfl⟩
theorem fU:∀ (us:List Value),us.length=2 -> ∃ a0 a1,us=[a0,a1]
 | [a0,a1],_=>⟨a0,a1,rfl⟩
theorem pT:∀ (us:List Value),us.length=3 -> ∃ a0 a1 a2,us=[a0,a1,a2]
 | [a0,a1,a2],_=>⟨a0,a1,a2,rfl⟩
theorem E8:∀ (us:List Value),us.length=4 -> ∃ a0 a1 a2 a3,us=[a0,a1,a2,a3]
 | [a0,a1,a2,a3],_=>⟨a0,a1,a2,a3,rfl⟩
theorem all_mk {l:PySem.W.OpenLaw} {w:World} {K:PySem.W.Frag} {h:Heap} {mg:Str->Option Value} {fa f1 f2 f3 f4 f5 f6 f7 f8 f9 f10 f11 f12 f13 f14 f15 f16 f17 f18 f19 f20 f21 f22 f23 f24 f25 f26 f27 f28 f29 f30 f31 f32 f33 f34:Addr} (X:K.In h) (G:h.Ns mainGlobals mg) (hfa:mg "law" = some (.ref fa))
  {od1 an1 od2 an2 od3 an3 od4 an4 od5 an5 od6 an6 od7 an7 od8 an8 od9 an9 aKG aKH aKI aKJ aKK aKL aKM aKN aKO aKP aKQ aKR aKS aKT aKU aKV aKW aKX aKY aKZ aK0 aK1 aK2 aK3 aK4 aK5 aK6 aK7 aK8 aK9 aKa aKb aKc aKd aKe aKf aKg aKh aKi aKj aKk aKl aKm aKn aKo aKp aKq aKr aKs aEh:Option Addr} {sl1 sl2 sl3 sl4 sl5 sl6 sl7 sl8 sl9 aKt aKu aKv aKw aKx aKy aKz aLA aLB aLC aLD aLE aLF aLG aLH aLI aLJ aLK aLL aLM aLN aLO aLP aLQ aLR:Array (Option Value)}
  {oc1 kV1 dc1 pm1 cd1 ct1 oc2 kV2 dc2 pm2 cd2 ct2 oc3 kV3 dc3 pm3 cd3 ct3 oc4 kV4 dc4 pm4 cd4 ct4 oc5 kV5 dc5 pm5 cd5 ct5 oc6 kV6 dc6 pm6 cd6 ct6 oc7 kV7 dc7 pm7 cd7 ct7 oc8 kV8 dc8 pm8 cd8 ct8 oc9 kV9 dc9 pm9 cd9 ct9 aLS aLT aLU aLV aEi aLW aLX aLY aLZ aL0 aEj aL1 aL2 aL3 aL4 aL5 aEk aL6 aL7 aL8 aL9 aLa aEm aLb aLc aLd aLe aLf aEn aLg aLh aLi aLj aLk aEo aLl aLm aLn aLo aLp aEp aLq aLr aLs aLt aLu aEq aLv aLw aLx aLy aLz aEr aMA aMB aMC aMD aME aEs aMF aMG aMH aMI aMJ aEt aMK aML aMM aMN aMO aEu aMP aMQ aMR aMS aMT aEv aMU aMV aMW aMX aMY aEw aMZ aM0 aM1 aM2 aM3 aEx aM4 aM5 aM6 aM7 aM8 aEy aM9 aMa aMb aMc aMd aEz aMe aMf aMg aMh aMi aFA aMj aMk aMl aMm aMn aFB aMo aMp aMq aMr aMs aFC aMt aMu aMv aMw aMx aFD aMy aMz aNA aNB aNC aFE aND aNE aNF aNG aNH aFF aNI aNJ aNK aNL aNM aFG aNN aNO aFH aFI aFJ aBa aFK:Value}
  {lW:Tok}
  (a1:PySem.W.nsIn K mainGlobals "are_too_many" = some (some (.ref f1))) (l1:K.lookup f1=some ⟨oc1,od1,.func (PySem.W.fnOf "are_too_many" "are_too_many" (bE fM) (aZ fM) (aH fM) .none kV1 dc1 pm1 an1 cd1 ct1),sl1⟩) (c1:PySem.W.codeIn K cd1 "are_too_many" = true) (k1:PySem.W.keepIn K (.ref f1)=true)
  (a2:PySem.W.nsIn K mainGlobals "ready_things" = some (some (.ref f2))) (l2:K.lookup f2=some ⟨oc2,od2,.func (PySem.W.fnOf "ready_things" "ready_things" (bE fN) (aZ fN) (aH fN) .none kV2 dc2 pm2 an2 cd2 ct2),sl2⟩) (c2:PySem.W.codeIn K cd2 "ready_things" = true) (k2:PySem.W.keepIn K (.ref f2)=true)
  (a3:PySem.W.nsIn K mainGlobals "joined" = some (some (.ref f3))) (l3:K.lookup f3=some ⟨oc3,od3,.func (PySem.W.fnOf "joined" "joined" (bE mL) (aZ mL) (aH mL) .none kV3 dc3 pm3 an3 cd3 ct3),sl3⟩) (c3:PySem.W.codeIn K cd3 "joined" = true) (k3:PySem.W.keepIn K (.ref f3)=true)
  (a4:PySem.W.nsIn K mainGlobals "added" = some (some (.ref f4))) (l4:K.lookup f4=some ⟨oc4,od4,.func (PySem.W.fnOf "added" "added" (bE pK) (aZ pK) (aH pK) .none kV4 dc4 pm4 an4 cd4 ct4),sl4⟩) (c4:PySem.W.codeIn K cd4 "added" = true) (k4:PySem.W.keepIn K (.ref f4)=true)
  (a5:PySem.W.nsIn K mainGlobals "one_descent_more" = some (some (.ref f5))) (l5:K.lookup f5=some ⟨oc5,od5,.func (PySem.W.fnOf "one_descent_more" "one_descent_more" (bE dN) (aZ dN) (aH dN) .none kV5 dc5 pm5 an5 cd5 ct5),sl5⟩) (c5:PySem.W.codeIn K cd5 "one_descent_more" = true) (k5:PySem.W.keepIn K (.ref f5)=true)
  (a6:PySem.W.nsIn K mainGlobals "find_shares" = some (some (.ref f6))) (l6:K.lookup f6=some ⟨oc6,od6,.func (PySem.W.fnOf "find_shares" "find_shares" (bE e8) (aZ e8) (aH e8) .none kV6 dc6 pm6 an6 cd6 ct6),sl6⟩) (c6:PySem.W.codeIn K cd6 "find_shares" = true) (k6:PySem.W.keepIn K (.ref f6)=true)
  (a7:PySem.W.nsIn K mainGlobals "shares_on" = some (some (.ref f7))) (l7:K.lookup f7=some ⟨oc7,od7,.func (PySem.W.fnOf "shares_on" "shares_on" (bE gY) (aZ gY) (aH gY) .none kV7 dc7 pm7 an7 cd7 ct7),sl7⟩) (c7:PySem.W.codeIn K cd7 "shares_on" = true) (k7:PySem.W.keepIn K (.ref f7)=true)
  (a8:PySem.W.nsIn K mainGlobals "shares_by_descents" = some (some (.ref f8))) (l8:K.lookup f8=some ⟨oc8,od8,.func (PySem.W.fnOf "shares_by_descents" "shares_by_descents" (bE cJ) (aZ cJ) (aH cJ) .none kV8 dc8 pm8 an8 cd8 ct8),sl8⟩) (c8:PySem.W.codeIn K cd8 "shares_by_descents" = true) (k8:PySem.W.keepIn K (.ref f8)=true)
  (a9:PySem.W.nsIn K mainGlobals "chosen" = some (some (.ref f9))) (l9:K.lookup f9=some ⟨oc9,od9,.func (PySem.W.fnOf "chosen" "chosen" (bE mN) (aZ mN) (aH mN) .none kV9 dc9 pm9 an9 cd9 ct9),sl9⟩) (c9:PySem.W.codeIn K cd9 "chosen" = true) (k9:PySem.W.keepIn K (.ref f9)=true)
  (a10:PySem.W.nsIn K mainGlobals "sum_over_descents" = some (some (.ref f10))) (l10:K.lookup f10=some ⟨aLS,aKG,.func (PySem.W.fnOf "sum_over_descents" "sum_over_descents" (bE dH) (aZ dH) (aH dH) .none aLT aLU aLV aKH aEi aLW),aKt⟩) (c10:PySem.W.codeIn K aEi "sum_over_descents" = true) (k10:PySem.W.keepIn K (.ref f10)=true)
  (a11:PySem.W.nsIn K mainGlobals "count_at" = some (some (.ref f11))) (l11:K.lookup f11=some ⟨aLX,aKI,.func (PySem.W.fnOf "count_at" "count_at" (bE iU) (aZ iU) (aH iU) .none aLY aLZ aL0 aKJ aEj aL1),aKu⟩) (c11:PySem.W.codeIn K aEj "count_at" = true) (k11:PySem.W.keepIn K (.ref f11)=true)
  (a12:PySem.W.nsIn K mainGlobals "first_differences" = some (some (.ref f12))) (l12:K.lookup f12=some ⟨aL2,aKK,.func (PySem.W.fnOf "first_differences" "first_differences" (bE dI) (aZ dI) (aH dI) .none aL3 aL4 aL5 aKL aEk aL6),aKv⟩) (c12:PySem.W.codeIn K aEk "first_differences" = true) (k12:PySem.W.keepIn K (.ref f12)=true)
  (a13:PySem.W.nsIn K mainGlobals "shares_by_steps" = some (some (.ref f13))) (l13:K.lookup f13=some ⟨aL7,aKM,.func (PySem.W.fnOf "shares_by_steps" "shares_by_steps" (bE dW) (aZ dW) (aH dW) .none aL8 aL9 aLa aKN aEm aLb),aKw⟩) (c13:PySem.W.codeIn K aEm "shares_by_steps" = true) (k13:PySem.W.keepIn K (.ref f13)=true)
  (a14:PySem.W.nsIn K mainGlobals "refuse_too_many" = some (some (.ref f14))) (l14:K.lookup f14=some ⟨aLc,aKO,.func (PySem.W.fnOf "refuse_too_many" "refuse_too_many" (bE dY) (aZ dY) (aH dY) .none aLd aLe aLf aKP aEn aLg),aKx⟩) (c14:PySem.W.codeIn K aEn "refuse_too_many" = true) (k14:PySem.W.keepIn K (.ref f14)=true)
  (a15:PySem.W.nsIn K mainGlobals "row_with_more" = some (some (.ref f15))) (l15:K.lookup f15=some ⟨aLh,aKQ,.func (PySem.W.fnOf "row_with_more" "row_with_more" (bE eP) (aZ eP) (aH eP) .none aLi aLj aLk aKR aEo aLl),aKy⟩) (c15:PySem.W.codeIn K aEo "row_with_more" = true) (k15:PySem.W.keepIn K (.ref f15)=true)
  (a16:PySem.W.nsIn K mainGlobals "with_more" = some (some (.ref f16))) (l16:K.lookup f16=some ⟨aLm,aKS,.func (PySem.W.fnOf "with_more" "with_more" (bE gZ) (aZ gZ) (aH gZ) .none aLn aLo aLp aKT aEp aLq),aKz⟩) (c16:PySem.W.codeIn K aEp "with_more" = true) (k16:PySem.W.keepIn K (.ref f16)=true)
  (a17:PySem.W.nsIn K mainGlobals "side_by_side" = some (some (.ref f17))) (l17:K.lookup f17=some ⟨aLr,aKU,.func (PySem.W.fnOf "side_by_side" "side_by_side" (bE fO) (aZ fO) (aH fO) .none aLs aLt aLu aKV aEq aLv),aLA⟩) (c17:PySem.W.codeIn K aEq "side_by_side" = true) (k17:PySem.W.keepIn K (.ref f17)=true)
  (a18:PySem.W.nsIn K mainGlobals "above_plain" = some (some (.ref f18))) (l18:K.lookup f18=some ⟨aLw,aKW,.func (PySem.W.fnOf "above_plain" "above_plain" (bE gA) (aZ gA) (aH gA) .none aLx aLy aLz aKX aEr aMA),aLB⟩) (c18:PySem.W.codeIn K aEr "above_plain" = true) (k18:PySem.W.keepIn K (.ref f18)=true)
  (a19:PySem.W.nsIn K mainGlobals "above_strict" = some (some (.ref f19))) (l19:K.lookup f19=some ⟨aMB,aKY,.func (PySem.W.fnOf "above_strict" "above_strict" (bE fP) (aZ fP) (aH fP) .none aMC aMD aME aKZ aEs aMF),aLC⟩) (c19:PySem.W.codeIn K aEs "above_strict" = true) (k19:PySem.W.keepIn K (.ref f19)=true)
  (a20:PySem.W.nsIn K mainGlobals "_law_cell" = some (some (.ref f20))) (l20:K.lookup f20=some ⟨aMG,aK0,.func (PySem.W.fnOf "_law_cell" "_law_cell" (bE mP) (aZ mP) (aH mP) .none aMH aMI aMJ aK1 aEt aMK),aLD⟩) (c20:PySem.W.codeIn K aEt "_law_cell" = true) (k20:PySem.W.keepIn K (.ref f20)=true)
  (a21:PySem.W.nsIn K mainGlobals "_law_mixed" = some (some (.ref f21))) (l21:K.lookup f21=some ⟨aML,aK2,.func (PySem.W.fnOf "_law_mixed" "_law_mixed" (bE jW) (aZ jW) (aH jW) .none aMM aMN aMO aK3 aEu aMP),aLE⟩) (c21:PySem.W.codeIn K aEu "_law_mixed" = true) (k21:PySem.W.keepIn K (.ref f21)=true)
  (a22:PySem.W.nsIn K mainGlobals "_law_draws" = some (some (.ref f22))) (l22:K.lookup f22=some ⟨aMQ,aK4,.func (PySem.W.fnOf "_law_draws" "_law_draws" (bE jX) (aZ jX) (aH jX) .none aMR aMS aMT aK5 aEv aMU),aLF⟩) (c22:PySem.W.codeIn K aEv "_law_draws" = true) (k22:PySem.W.keepIn K (.ref f22)=true)
  (a23:PySem.W.nsIn K mainGlobals "_law_order" = some (some (.ref f23))) (l23:K.lookup f23=some ⟨aMV,aK6,.func (PySem.W.fnOf "_law_order" "_law_order" (bE iV) (aZ iV) (aH iV) .none aMW aMX aMY aK7 aEw aMZ),aLG⟩) (c23:PySem.W.codeIn K aEw "_law_order" = true) (k23:PySem.W.keepIn K (.ref f23)=true)
  (a24:PySem.W.nsIn K mainGlobals "_law_drawn" = some (some (.ref f24))) (l24:K.lookup f24=some ⟨aM0,aK8,.func (PySem.W.fnOf "_law_drawn" "_law_drawn" (bE jY) (aZ jY) (aH jY) .none aM1 aM2 aM3 aK9 aEx aM4),aLH⟩) (c24:PySem.W.codeIn K aEx "_law_drawn" = true) (k24:PySem.W.keepIn K (.ref f24)=true)
  (a25:PySem.W.nsIn K mainGlobals "_law_same" = some (some (.ref f25))) (l25:K.lookup f25=some ⟨aM5,aKa,.func (PySem.W.fnOf "_law_same" "_law_same" (bE mQ) (aZ mQ) (aH mQ) .none aM6 aM7 aM8 aKb aEy aM9),aLI⟩) (c25:PySem.W.codeIn K aEy "_law_same" = true) (k25:PySem.W.keepIn K (.ref f25)=true)
  (a26:PySem.W.nsIn K mainGlobals "_law_great" = some (some (.ref f26))) (l26:K.lookup f26=some ⟨aMa,aKc,.func (PySem.W.fnOf "_law_great" "_law_great" (bE jZ) (aZ jZ) (aH jZ) .none aMb aMc aMd aKd aEz aMe),aLJ⟩) (c26:PySem.W.codeIn K aEz "_law_great" = true) (k26:PySem.W.keepIn K (.ref f26)=true)
  (a27:PySem.W.nsIn K mainGlobals "_law_goings" = some (some (.ref f27))) (l27:K.lookup f27=some ⟨aMf,aKe,.func (PySem.W.fnOf "_law_goings" "_law_goings" (bE iW) (aZ iW) (aH iW) .none aMg aMh aMi aKf aFA aMj),aLK⟩) (c27:PySem.W.codeIn K aFA "_law_goings" = true) (k27:PySem.W.keepIn K (.ref f27)=true)
  (a28:PySem.W.nsIn K mainGlobals "_law_descents" = some (some (.ref f28))) (l28:K.lookup f28=some ⟨aMk,aKg,.func (PySem.W.fnOf "_law_descents" "_law_descents" (bE gG) (aZ gG) (aH gG) .none aMl aMm aMn aKh aFB aMo),aLL⟩) (c28:PySem.W.codeIn K aFB "_law_descents" = true) (k28:PySem.W.keepIn K (.ref f28)=true)
  (a29:PySem.W.nsIn K mainGlobals "_law_chosen" = some (some (.ref f29))) (l29:K.lookup f29=some ⟨aMp,aKi,.func (PySem.W.fnOf "_law_chosen" "_law_chosen" (bE iX) (aZ iX) (aH iX) .none aMq aMr aMs aKj aFC aMt),aLM⟩) (c29:PySem.W.codeIn K aFC "_law_chosen" = true) (k29:PySem.W.keepIn K (.ref f29)=true)
  (a30:PySem.W.nsIn K mainGlobals "_law_shares" = some (some (.ref f30))) (l30:K.lookup f30=some ⟨aMu,aKk,.func (PySem.W.fnOf "_law_shares" "_law_shares" (bE iY) (aZ iY) (aH iY) .none aMv aMw aMx aKl aFD aMy),aLN⟩) (c30:PySem.W.codeIn K aFD "_law_shares" = true) (k30:PySem.W.keepIn K (.ref f30)=true)
  (a31:PySem.W.nsIn K mainGlobals "_law_value" = some (some (.ref f31))) (l31:K.lookup f31=some ⟨aMz,aKm,.func (PySem.W.fnOf "_law_value" "_law_value" (bE j2) (aZ j2) (aH j2) .none aNA aNB aNC aKn aFE aND),aLO⟩) (c31:PySem.W.codeIn K aFE "_law_value" = true) (k31:PySem.W.keepIn K (.ref f31)=true)
  (a32:PySem.W.nsIn K mainGlobals "_law_steps" = some (some (.ref f32))) (l32:K.lookup f32=some ⟨aNE,aKo,.func (PySem.W.fnOf "_law_steps" "_law_steps" (bE j3) (aZ j3) (aH j3) .none aNF aNG aNH aKp aFF aNI),aLP⟩) (c32:PySem.W.codeIn K aFF "_law_steps" = true) (k32:PySem.W.keepIn K (.ref f32)=true)
  (a33:PySem.W.nsIn K mainGlobals "_law_times" = some (some (.ref f33))) (l33:K.lookup f33=some ⟨aNJ,aKq,.func (PySem.W.fnOf "_law_times" "_law_times" (bE j4) (aZ j4) (aH j4) .none aNK aNL aNM aKr aFG aNN),aLQ⟩) (c33:PySem.W.codeIn K aFG "_law_times" = true) (k33:PySem.W.keepIn K (.ref f33)=true)
  (a34:PySem.W.nsIn K mainGlobals "law" = some (some (.ref f34))) (l34:K.lookup f34=some ⟨aNO,aKs,.func (PySem.W.fnOf "law" "law" (bE sZ) (aZ sZ) (aH sZ) .none aFH aFI aFJ aEh aBa aFK),aLR⟩) (c34:PySem.W.codeIn K aBa "law" = true) (k34:PySem.W.keepIn K (.ref f34)=true)
  (z1:PySem.W.nsIn K mainGlobals "all" = some none) (z2:PySem.W.nsIn K mainGlobals "len" = some none) (z3:PySem.W.nsIn K mainGlobals "range" = some none) (z4:PySem.W.nsIn K mainGlobals "sorted" = some none) (z5:PySem.W.nsIn K mainGlobals "tuple" = some none) (z6:PySem.W.nsIn K mainGlobals "zip" = some none) (z7:PySem.W.nsIn K mainGlobals "max" = some none) (z8:PySem.W.nsIn K mainGlobals "enumerate" = some none) (z9:PySem.W.nsIn K mainGlobals "sum" = some none) (z10:PySem.W.nsIn K mainGlobals "list" = some none) (z11:PySem.W.nsIn K mainGlobals "isinstance" = some none) (z12:PySem.W.nsIn K mainGlobals "str" = some none) (z13:PySem.W.nsIn K mainGlobals "int" = some none) (z14:PySem.W.nsIn K mainGlobals "bool" = some none) (z15:PySem.W.nsIn K mainGlobals "min" = some none) (lZ:PySem.W.nsIn K mainGlobals "MOST_THINGS" = some (some (.int 9 lW))) :
  ∃ fd:FuncData,(∀ (s:Shared) (v:Value),BindsTo s fd ⟨[v],[]⟩ [("_law_script",v)]) /\ ∀ base:Heap,K.In base->base.Ns mainGlobals mg->aQ l.prog w K mg base cQ 19 fa fd ["_law_script"] (dL K rR):=by
 have e:=hfa.symm.trans (PySem.W.mg_of X G a34)
 cases e
 have F1:=cK (st:=fM) l1 c1 k1
 have F2:=cK (st:=fN) l2 c2 k2
 have F3:=cK (st:=mL) l3 c3 k3
 have F4:=cK (st:=pK) l4 c4 k4
 have F5:=cK (st:=dN) l5 c5 k5
 have F6:=cK (st:=e8) l6 c6 k6
 have F7:=cK (st:=gY) l7 c7 k7
 have F8:=cK (st:=cJ) l8 c8 k8
 have F9:=cK (st:=mN) l9 c9 k9
 have F10:=cK (st:=dH) l10 c10 k10
 have F11:=cK (st:=iU) l11 c11 k11
 have F12:=cK (st:=dI) l12 c12 k12
 have F13:=cK (st:=dW) l13 c13 k13
 have F14:=cK (st:=dY) l14 c14 k14
 have F15:=cK (st:=eP) l15 c15 k15
 have F16:=cK (st:=gZ) l16 c16 k16
 have F17:=cK (st:=fO) l17 c17 k17
 have F18:=cK (st:=gA) l18 c18 k18
 have F19:=cK (st:=fP) l19 c19 k19
 have F20:=cK (st:=mP) l20 c20 k20
 have F21:=cK (st:=jW) l21 c21 k21
 have F22:=cK (st:=jX) l22 c22 k22
 have F23:=cK (st:=iV) l23 c23 k23
 have F24:=cK (st:=jY) l24 c24 k24
 have F25:=cK (st:=mQ) l25 c25 k25
 have F26:=cK (st:=jZ) l26 c26 k26
 have F27:=cK (st:=iW) l27 c27 k27
 have F28:=cK (st:=gG) l28 c28 k28
 have F29:=cK (st:=iX) l29 c29 k29
 have F30:=cK (st:=iY) l30 c30 k30
 have F31:=cK (st:=j2) l31 c31 k31
 have F32:=cK (st:=j3) l32 c32 k32
 have F33:=cK (st:=j4) l33 c33 k33
 have F34:=cK (st:=sZ) l34 c34 k34
 have b1:=F1.binds (ps:=["n"]) fun _ _ _ _ _ _ us hl=>by obtain ⟨_,rfl⟩:=jT us hl; rfl
 have g1:=PySem.W.mg_of X G a1
 have b2:=F2.binds (ps:=["order", "ahead"]) fun _ _ _ _ _ _ us hl=>by obtain ⟨_,_,rfl⟩:=fU us hl; rfl
 have g2:=PySem.W.mg_of X G a2
 have b3:=F3.binds (ps:=["ahead", "thing"]) fun _ _ _ _ _ _ us hl=>by obtain ⟨_,_,rfl⟩:=fU us hl; rfl
 have g3:=PySem.W.mg_of X G a3
 have b4:=F4.binds (ps:=["one", "other"]) fun _ _ _ _ _ _ us hl=>by obtain ⟨_,_,rfl⟩:=fU us hl; rfl
 have g4:=PySem.W.mg_of X G a4
 have b5:=F5.binds (ps:=["shares"]) fun _ _ _ _ _ _ us hl=>by obtain ⟨_,rfl⟩:=jT us hl; rfl
 have g5:=PySem.W.mg_of X G a5
 have b6:=F6.binds (ps:=["order", "ahead", "last", "shares"]) fun _ _ _ _ _ _ us hl=>by obtain ⟨_,_,_,_,rfl⟩:=E8 us hl; rfl
 have g6:=PySem.W.mg_of X G a6
 have b7:=F7.binds (ps:=["order"]) fun _ _ _ _ _ _ us hl=>by obtain ⟨_,rfl⟩:=jT us hl; rfl
 have g7:=PySem.W.mg_of X G a7
 have b8:=F8.binds (ps:=["order"]) fun _ _ _ _ _ _ us hl=>by obtain ⟨_,rfl⟩:=jT us hl; rfl
 have g8:=PySem.W.mg_of X G a8
 have b9:=F9.binds (ps:=["x", "m"]) fun _ _ _ _ _ _ us hl=>by obtain ⟨_,_,rfl⟩:=fU us hl; rfl
 have g9:=PySem.W.mg_of X G a9
 have b10:=F10.binds (ps:=["shares", "n", "k"]) fun _ _ _ _ _ _ us hl=>by obtain ⟨_,_,_,rfl⟩:=pT us hl; rfl
 have g10:=PySem.W.mg_of X G a10
 have b11:=F11.binds (ps:=["order", "k"]) fun _ _ _ _ _ _ us hl=>by obtain ⟨_,_,rfl⟩:=fU us hl; rfl
 have g11:=PySem.W.mg_of X G a11
 have b12:=F12.binds (ps:=["values"]) fun _ _ _ _ _ _ us hl=>by obtain ⟨_,rfl⟩:=jT us hl; rfl
 have g12:=PySem.W.mg_of X G a12
 have b13:=F13.binds (ps:=["order"]) fun _ _ _ _ _ _ us hl=>by obtain ⟨_,rfl⟩:=jT us hl; rfl
 have g13:=PySem.W.mg_of X G a13
 have b14:=F14.binds (ps:=["one", "other"]) fun _ _ _ _ _ _ us hl=>by obtain ⟨_,_,rfl⟩:=fU us hl; rfl
 have g14:=PySem.W.mg_of X G a14
 have b15:=F15.binds (ps:=["row", "more"]) fun _ _ _ _ _ _ us hl=>by obtain ⟨_,_,rfl⟩:=fU us hl; rfl
 have g15:=PySem.W.mg_of X G a15
 have b16:=F16.binds (ps:=["order", "more"]) fun _ _ _ _ _ _ us hl=>by obtain ⟨_,_,rfl⟩:=fU us hl; rfl
 have g16:=PySem.W.mg_of X G a16
 have b17:=F17.binds (ps:=["one", "other"]) fun _ _ _ _ _ _ us hl=>by obtain ⟨_,_,rfl⟩:=fU us hl; rfl
 have g17:=PySem.W.mg_of X G a17
 have b18:=F18.binds (ps:=["one", "other"]) fun _ _ _ _ _ _ us hl=>by obtain ⟨_,_,rfl⟩:=fU us hl; rfl
 have g18:=PySem.W.mg_of X G a18
 have b19:=F19.binds (ps:=["one", "other"]) fun _ _ _ _ _ _ us hl=>by obtain ⟨_,_,rfl⟩:=fU us hl; rfl
 have g19:=PySem.W.mg_of X G a19
 have b20:=F20.binds (ps:=["_law_script", "_law_k"]) fun _ _ _ _ _ _ us hl=>by obtain ⟨_,_,rfl⟩:=fU us hl; rfl
 have g20:=PySem.W.mg_of X G a20
 have b21:=F21.binds (ps:=["_law_cell_here", "_law_k", "_law_salt"]) fun _ _ _ _ _ _ us hl=>by obtain ⟨_,_,_,rfl⟩:=pT us hl; rfl
 have g21:=PySem.W.mg_of X G a21
 have b22:=F22.binds (ps:=["_law_cell_here", "_law_many", "_law_salt"]) fun _ _ _ _ _ _ us hl=>by obtain ⟨_,_,_,rfl⟩:=pT us hl; rfl
 have g22:=PySem.W.mg_of X G a22
 have b23:=F23.binds (ps:=["_law_draws_here", "_law_n", "_law_thick"]) fun _ _ _ _ _ _ us hl=>by obtain ⟨_,_,_,rfl⟩:=pT us hl; rfl
 have g23:=PySem.W.mg_of X G a23
 have b24:=F24.binds (ps:=["_law_script", "_law_k", "_law_most", "_law_salt"]) fun _ _ _ _ _ _ us hl=>by obtain ⟨_,_,_,_,rfl⟩:=E8 us hl; rfl
 have g24:=PySem.W.mg_of X G a24
 have b25:=F25.binds (ps:=["_law_found", "_law_due"]) fun _ _ _ _ _ _ us hl=>by obtain ⟨_,_,rfl⟩:=fU us hl; rfl
 have g25:=PySem.W.mg_of X G a25
 have b26:=F26.binds (ps:=["_law_cell_here", "_law_most", "_law_salt"]) fun _ _ _ _ _ _ us hl=>by obtain ⟨_,_,_,rfl⟩:=pT us hl; rfl
 have g26:=PySem.W.mg_of X G a26
 have b27:=F27.binds (ps:=["_law_order_here"]) fun _ _ _ _ _ _ us hl=>by obtain ⟨_,rfl⟩:=jT us hl; rfl
 have g27:=PySem.W.mg_of X G a27
 have b28:=F28.binds (ps:=["_law_word"]) fun _ _ _ _ _ _ us hl=>by obtain ⟨_,rfl⟩:=jT us hl; rfl
 have g28:=PySem.W.mg_of X G a28
 have b29:=F29.binds (ps:=["_law_x", "_law_m"]) fun _ _ _ _ _ _ us hl=>by obtain ⟨_,_,rfl⟩:=fU us hl; rfl
 have g29:=PySem.W.mg_of X G a29
 have b30:=F30.binds (ps:=["_law_order_here"]) fun _ _ _ _ _ _ us hl=>by obtain ⟨_,rfl⟩:=jT us hl; rfl
 have g30:=PySem.W.mg_of X G a30
 have b31:=F31.binds (ps:=["_law_shares_here", "_law_n", "_law_k"]) fun _ _ _ _ _ _ us hl=>by obtain ⟨_,_,_,rfl⟩:=pT us hl; rfl
 have g31:=PySem.W.mg_of X G a31
 have b32:=F32.binds (ps:=["_law_shares_here", "_law_n"]) fun _ _ _ _ _ _ us hl=>by obtain ⟨_,_,rfl⟩:=fU us hl; rfl
 have g32:=PySem.W.mg_of X G a32
 have b33:=F33.binds (ps:=["_law_one", "_law_other", "_law_more", "_law_many"]) fun _ _ _ _ _ _ us hl=>by obtain ⟨_,_,_,_,rfl⟩:=E8 us hl; rfl
 have g33:=PySem.W.mg_of X G a33
 have qC:=PySem.W.mg_none_of X G z1
 have bC:=PySem.W.mg_none_of X G z2
 have aM:=PySem.W.mg_none_of X G z3
 have mM:=PySem.W.mg_none_of X G z4
 have bG:=PySem.W.mg_none_of X G z5
 have CG:=PySem.W.mg_none_of X G z6
 have qD:=PySem.W.mg_none_of X G z7
 have oK:=PySem.W.mg_none_of X G z8
 have UX:=PySem.W.mg_none_of X G z9
 have KS:=PySem.W.mg_none_of X G z10
 have dE:=PySem.W.mg_none_of X G z11
 have M7:=PySem.W.mg_none_of X G z12
 have sY:=PySem.W.mg_none_of X G z13
 have uG:=PySem.W.mg_none_of X G z14
 have UY:=PySem.W.mg_none_of X G z15
 have lX:=PySem.W.mg_of X G lZ
 refine ⟨PySem.W.fnOf "law" "law" (bE sZ) (aZ sZ) (aH sZ) .none aFH aFI aFJ aEh aBa aFK,fun s v=>.of_eq rfl,fun base _ _=>?_⟩
 have o1:aQ l.prog w K mg base cQ 4 f1 _ _ (dL K eL):=u9 (kk:=3) F1 lX
 have o2:aQ l.prog w K mg base cQ 4 f2 _ _ (dL K LL.eK):=vA (kk:=3) F2 qC bC aM
 have o3:aQ l.prog w K mg base cQ 4 f3 _ _ (dL K LL.gD):=PH (kk:=3) F3 mM bG
 have o4:aQ l.prog w K mg base cQ 4 f4 _ _ (dL K LL.jQ):=US (kk:=3) F4 CG
 have o5:aQ l.prog w K mg base cQ 4 f5 _ _ (dL K LL.bU):=pV (kk:=3) F5 
 have o6:aQ l.prog w K mg base cQ 15 f6 _ _ (YE K (LL.bH 11)):=oF (kk:=4) F6 (o2.mono (by decide)) g2 k2 b2 (o4.mono (by decide)) g4 k4 b4 (o5.mono (by decide)) g5 k5 b5 (o3.mono (by decide)) g3 k3 b3 g6 k6 b6 bC qD 11
 have o7:aQ l.prog w K mg base cQ 16 f7 _ _ (dL K LL.gX):=E2 (kk:=15) F7 (o6.mono (by decide)) g6 k6 b6
 have o8:aQ l.prog w K mg base cQ 17 f8 _ _ (dL K LL.aS):=nM (kk:=16) F8 (o7.mono (by decide)) g7 k7 b7 bG
 have o9:aQ l.prog w K mg base cQ 4 f9 _ _ (dL K LL.mD):=PJ (kk:=3) F9 aM
 have o10:aQ l.prog w K mg base cQ 5 f10 _ _ (dL K LL.bX):=oJ (kk:=4) F10 (o9.mono (by decide)) g9 k9 b9 oK UX
 have o11:aQ l.prog w K mg base cQ 18 f11 _ _ (dL K LL.gR):=IC (kk:=17) F11 (o10.mono (by decide)) g10 k10 b10 (o8.mono (by decide)) g8 k8 b8 bC
 have o12:aQ l.prog w K mg base cQ 4 f12 _ _ (dL K LL.dF):=oM (kk:=3) F12 bG CG
 have o13:aQ l.prog w K mg base cQ 18 f13 _ _ (dL K LL.cN):=rB (kk:=17) F13 (o12.mono (by decide)) g12 k12 b12 (o10.mono (by decide)) g10 k10 b10 (o8.mono (by decide)) g8 k8 b8 aM bC
 have o14:aQ l.prog w K mg base cQ 5 f14 _ _ (dL K bQ):=rC (kk:=4) F14 (o1.mono (by decide)) g1 k1 b1 bC
 have o15:aQ l.prog w K mg base cQ 4 f15 _ _ (dL K eO):=uB (kk:=3) F15 bG
 have o16:aQ l.prog w K mg base cQ 5 f16 _ _ (dL K eG):=E3 (kk:=4) F16 (o15.mono (by decide)) g15 k15 b15 bG
 have o17:aQ l.prog w K mg base cQ 6 f17 _ _ (dL K fK):=vF (kk:=5) F17 (o16.mono (by decide)) g16 k16 b16 (o14.mono (by decide)) g14 k14 b14 bC
 have o18:aQ l.prog w K mg base cQ 6 f18 _ _ (dL K fY):=zK (kk:=5) F18 (o16.mono (by decide)) g16 k16 b16 (o14.mono (by decide)) g14 k14 b14 bC bG aM
 have o19:aQ l.prog w K mg base cQ 6 f19 _ _ (dL K fL):=vG (kk:=5) F19 (o16.mono (by decide)) g16 k16 b16 (o14.mono (by decide)) g14 k14 b14 bG bC aM
 have o20:aQ l.prog w K mg base cQ 4 f20 _ _ (dL K LL.fD):=PK (kk:=3) F20 bC
 have o21:aQ l.prog w K mg base cQ 4 f21 _ _ (dL K LL.fE):=KP (kk:=3) F21 
 have o22:aQ l.prog w K mg base cQ 5 f22 _ _ (dL K LL.fF):=KQ (kk:=4) F22 (o21.mono (by decide)) g21 k21 b21 aM
 have o23:aQ l.prog w K mg base cQ 4 f23 _ _ (dL K LL.jU):=KR (kk:=3) F23 aM mM bG bC KS
 have o24:aQ l.prog w K mg base cQ 6 f24 _ _ (dL K LL.fG):=KU (kk:=5) F24 (o23.mono (by decide)) g23 k23 b23 (o22.mono (by decide)) g22 k22 b22 (o20.mono (by decide)) g20 k20 b20
 have o25:aQ l.prog w K mg base cQ 9 f25 _ _ (dL K (LL.bR 6)):=CK (kk:=3) F25 g25 k25 b25 dE M7 sY uG bG bC aM qC 6
 have o26:aQ l.prog w K mg base cQ 5 f26 _ _ (dL K LL.iL):=KW (kk:=4) F26 (o21.mono (by decide)) g21 k21 b21 aM
 have o27:aQ l.prog w K mg base cQ 4 f27 _ _ (dL K LL.gS):=ID (kk:=3) F27 bC aM qC
 have o28:aQ l.prog w K mg base cQ 4 f28 _ _ (dL K fS):=AT (kk:=3) F28 bC aM
 have o29:aQ l.prog w K mg base cQ 4 f29 _ _ (dL K LL.dM):=IE (kk:=3) F29 aM
 have o30:aQ l.prog w K mg base cQ 5 f30 _ _ (dL K gU):=IF (kk:=4) F30 (o27.mono (by decide)) g27 k27 b27 (o28.mono (by decide)) g28 k28 b28 bC qD
 have o31:aQ l.prog w K mg base cQ 5 f31 _ _ (dL K fW):=K2 (kk:=4) F31 (o29.mono (by decide)) g29 k29 b29 bC aM
 have o32:aQ l.prog w K mg base cQ 5 f32 _ _ (dL K iN):=K3 (kk:=4) F32 (o29.mono (by decide)) g29 k29 b29 aM UY
 have o33:aQ l.prog w K mg base cQ 4 f33 _ _ (dL K gF):=K4 (kk:=3) F33 bC aM
 exact aB8 (kk:=18) F34 (o25.mono (by decide)) g25 k25 b25 (o13.mono (by decide)) g13 k13 b13 (o33.mono (by decide)) g33 k33 b33 (o8.mono (by decide)) g8 k8 b8 (o19.mono (by decide)) g19 k19 b19 (o18.mono (by decide)) g18 k18 b18 (o32.mono (by decide)) g32 k32 b32 (o11.mono (by decide)) g11 k11 b11 (o17.mono (by decide)) g17 k17 b17 (o31.mono (by decide)) g31 k31 b31 (o30.mono (by decide)) g30 k30 b30 (o26.mono (by decide)) g26 k26 b26 (o20.mono (by decide)) g20 k20 b20 (o24.mono (by decide)) g24 k24 b24 (o22.mono (by decide)) g22 k22 b22 bG aM qD sY bC
theorem aBb {K:PySem.W.Frag} {H:Hp} {a:Addr} {ns:List Int} (o:Only H) (h:gB K H a (ns.map V.int)):Y2 K H a ns:=by
 rcases h with h | h
 ·rcases h with h | ⟨b,h⟩
  ·rcases o a with z | ⟨_,_,z⟩<;>rw [z] at h<;>cases h
  ·exact .inl ⟨b,h⟩
 ·exact .inr (.inr h)
theorem walk {l:PySem.W.OpenLaw} {q:Program} {loose:List Str} {XP:(Str->Option Value)->Heap->Prop} {YP:World->Heap->Prop} {d:DefRec} {K:Params->PySem.W.Frag} (hn:l.most=some 63) (hdf:d.params.defaults=[])
  (hY:∀ (w:World) (h:Heap),YP w h->(K w.params).In h)
  (F:∀ (w:World) (mg:Str->Option Value) (fa:Addr) (h:Heap),(K w.params).In h->h.Ns mainGlobals mg->mg d.name=some (.ref fa) ->
   ∃ fd:FuncData,(∀ (s:Shared) (u:Value),BindsTo s fd ⟨[u],[]⟩ [("_law_script",u)]) /\ ∀ base:Heap,(K w.params).In base->base.Ns mainGlobals mg->aQ l.prog w (K w.params) mg base cQ 19 fa fd ["_law_script"] (dL (K w.params) rR)) :
  PySem.W.WalkO q loose XP YP l.row.toRowW d [] (fun f vs=>PySem.call f vs) :=
 L2.W0 (n:=63) (k:=19) (x := "_law_script") (CX:=fun _=>cQ) (sp:=fun w=>dL (K w.params) rR) hn (by decide) hdf ⟨rfl,by decide,by decide⟩ hY F
  (fun _ H a ns hl o hS=>⟨fun a=>H a=none,[.nN ns],fun d=>d=.bl true,fun _ h=>h,⟨_,_,rfl,⟨a,rfl,aBb o hS⟩,rfl⟩,⟨_,RU ns hl,rfl⟩,fun v H' d _ hd e=>by subst e; exact hd⟩) fun _ _ _ _ _ z=>z
end K48
open PySem PySem.W PyProof.Rows
noncomputable def PySem.W.Fast.E9:=0
noncomputable def PySem.W.Fast.FH:=0
noncomputable def PySem.W.Fast.FA:=0
noncomputable def PySem.W.Fast.FB:=0
noncomputable def PySem.W.Fast.FI:=0
noncomputable def PySem.W.Fast.FJ:=0
noncomputable def PySem.W.Fast.FK:=0
noncomputable def PySem.W.Fast.FC:=0
noncomputable def PySem.W.Fast.FD:=0
noncomputable def PySem.W.Fast.tw16836736164470648434 := 0
noncomputable def PySem.W.Fast.tw7720436732160952010 := 0
noncomputable def PySem.W.Fast.tw13758412605462967453 := 0
noncomputable def PySem.W.Fast.tw13929669702208564635 := 0
noncomputable def PySem.W.Fast.tw8922430836111788549 := 0
noncomputable def PySem.W.Fast.tw9174080510970102119 := 0
noncomputable def PySem.W.Fast.tw8982065077417113698 := 0
noncomputable def PySem.W.Fast.tw11635912349535122073 := 0
noncomputable def PySem.W.Fast.tw14983152108379505635 := 0
set_option maxRecDepth 100000 in
set_option maxHeartbeats 0 in
theorem PySem.Challenge.cw_risecount_k48_whole_sums_holds : PySem.Challenge.rw_risecount_k48_whole_sums.Holds := by
 w_on; o_law; k_head; (case hw=>w_witness2)
 k_fill
 refine K48.walk (l := PySem.Challenge.rw_risecount_k48_whole_sums) rfl rfl (fun w h Y => PySem.W.kIn_of Y) ?F
 case F =>
  intro w mg fa h KX G hmg
  refine' K48.all_mk KX G hmg ?a1 ?l1 ?c1 ?k1 ?a2 ?l2 ?c2 ?k2 ?a3 ?l3 ?c3 ?k3 ?a4 ?l4 ?c4 ?k4 ?a5 ?l5 ?c5 ?k5 ?a6 ?l6 ?c6 ?k6 ?a7 ?l7 ?c7 ?k7 ?a8 ?l8 ?c8 ?k8 ?a9 ?l9 ?c9 ?k9 ?a10 ?l10 ?c10 ?k10 ?a11 ?l11 ?c11 ?k11 ?a12 ?l12 ?c12 ?k12 ?a13 ?l13 ?c13 ?k13 ?a14 ?l14 ?c14 ?k14 ?a15 ?l15 ?c15 ?k15 ?a16 ?l16 ?c16 ?k16 ?a17 ?l17 ?c17 ?k17 ?a18 ?l18 ?c18 ?k18 ?a19 ?l19 ?c19 ?k19 ?a20 ?l20 ?c20 ?k20 ?a21 ?l21 ?c21 ?k21 ?a22 ?l22 ?c22 ?k22 ?a23 ?l23 ?c23 ?k23 ?a24 ?l24 ?c24 ?k24 ?a25 ?l25 ?c25 ?k25 ?a26 ?l26 ?c26 ?k26 ?a27 ?l27 ?c27 ?k27 ?a28 ?l28 ?c28 ?k28 ?a29 ?l29 ?c29 ?k29 ?a30 ?l30 ?c30 ?k30 ?a31 ?l31 ?c31 ?k31 ?a32 ?l32 ?c32 ?k32 ?a33 ?l33 ?c33 ?k33 ?a34 ?l34 ?c34 ?k34 ?z1 ?z2 ?z3 ?z4 ?z5 ?z6 ?z7 ?z8 ?z9 ?z10 ?z11 ?z12 ?z13 ?z14 ?z15 ?lZ
  (case a1=>k_is); (case l1=>k_is); (case c1=>k_is); (case k1=>k_is)
  (case a2=>k_is); (case l2=>k_is); (case c2=>k_is); (case k2=>k_is)
  (case a3=>k_is); (case l3=>k_is); (case c3=>k_is); (case k3=>k_is)
  (case a4=>k_is); (case l4=>k_is); (case c4=>k_is); (case k4=>k_is)
  (case a5=>k_is); (case l5=>k_is); (case c5=>k_is); (case k5=>k_is)
  (case a6=>k_is); (case l6=>k_is); (case c6=>k_is); (case k6=>k_is)
  (case a7=>k_is); (case l7=>k_is); (case c7=>k_is); (case k7=>k_is)
  (case a8=>k_is); (case l8=>k_is); (case c8=>k_is); (case k8=>k_is)
  (case a9=>k_is); (case l9=>k_is); (case c9=>k_is); (case k9=>k_is)
  (case a10=>k_is); (case l10=>k_is); (case c10=>k_is); (case k10=>k_is)
  (case a11=>k_is); (case l11=>k_is); (case c11=>k_is); (case k11=>k_is)
  (case a12=>k_is); (case l12=>k_is); (case c12=>k_is); (case k12=>k_is)
  (case a13=>k_is); (case l13=>k_is); (case c13=>k_is); (case k13=>k_is)
  (case a14=>k_is); (case l14=>k_is); (case c14=>k_is); (case k14=>k_is)
  (case a15=>k_is); (case l15=>k_is); (case c15=>k_is); (case k15=>k_is)
  (case a16=>k_is); (case l16=>k_is); (case c16=>k_is); (case k16=>k_is)
  (case a17=>k_is); (case l17=>k_is); (case c17=>k_is); (case k17=>k_is)
  (case a18=>k_is); (case l18=>k_is); (case c18=>k_is); (case k18=>k_is)
  (case a19=>k_is); (case l19=>k_is); (case c19=>k_is); (case k19=>k_is)
  (case a20=>k_is); (case l20=>k_is); (case c20=>k_is); (case k20=>k_is)
  (case a21=>k_is); (case l21=>k_is); (case c21=>k_is); (case k21=>k_is)
  (case a22=>k_is); (case l22=>k_is); (case c22=>k_is); (case k22=>k_is)
  (case a23=>k_is); (case l23=>k_is); (case c23=>k_is); (case k23=>k_is)
  (case a24=>k_is); (case l24=>k_is); (case c24=>k_is); (case k24=>k_is)
  (case a25=>k_is); (case l25=>k_is); (case c25=>k_is); (case k25=>k_is)
  (case a26=>k_is); (case l26=>k_is); (case c26=>k_is); (case k26=>k_is)
  (case a27=>k_is); (case l27=>k_is); (case c27=>k_is); (case k27=>k_is)
  (case a28=>k_is); (case l28=>k_is); (case c28=>k_is); (case k28=>k_is)
  (case a29=>k_is); (case l29=>k_is); (case c29=>k_is); (case k29=>k_is)
  (case a30=>k_is); (case l30=>k_is); (case c30=>k_is); (case k30=>k_is)
  (case a31=>k_is); (case l31=>k_is); (case c31=>k_is); (case k31=>k_is)
  (case a32=>k_is); (case l32=>k_is); (case c32=>k_is); (case k32=>k_is)
  (case a33=>k_is); (case l33=>k_is); (case c33=>k_is); (case k33=>k_is)
  (case a34=>k_is); (case l34=>k_is); (case c34=>k_is); (case k34=>k_is)
  (case z1=>k_is)
  (case z2=>k_is)
  (case z3=>k_is)
  (case z4=>k_is)
  (case z5=>k_is)
  (case z6=>k_is)
  (case z7=>k_is)
  (case z8=>k_is)
  (case z9=>k_is)
  (case z10=>k_is)
  (case z11=>k_is)
  (case z12=>k_is)
  (case z13=>k_is)
  (case z14=>k_is)
  (case z15=>k_is)
  (case lZ=>k_is)
end
