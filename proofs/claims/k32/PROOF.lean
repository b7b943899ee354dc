import PyProof.Rows.All
import PySem.Str
import PySem.Sem
import PyProof.StrBlockL
import PyProof.Rows.Walk
import Wide.All
import OpenK.AllK
import Wide.FinOn
import Lean
import PyProof.EqAt
import PyProof.EqKinds
import PyProof.TupleCall
import PyProof.SeqRoads2
import PyProof.ExcArgs
import KE.KIsAll
import PyProof.DictIter
import PySem.Challenge.RW_risecount_k32_looker_right
set_option Elab.async false
set_option linter.all false
set_option maxRecDepth 100000
set_option maxHeartbeats 3999999
macro "!" t:term : tactic=>`(tactic|exact $t)
macro "@" t:term : tactic=>`(tactic|refine $t)
open Lean.Parser.Tactic in
macro "&" p:rcasesPatMed ":=" t:term : tactic=>`(tactic|obtain $p:rcasesPatMed:=$t)
open Lean.Parser.Tactic in
macro "~" n:(ppSpace colGt ident)+ l:(location)? : tactic=>`(tactic|unfold $n* $[$l]?)
macro "°" : term=>`(by omega)
macro "§" : term=>`(by decide)
macro "¥" t:term : term=>`(by simpa using $t)
open Lean.Parser.Command in
macro "##" n:declId s:declSig v:declVal : command=>`(command|theorem $n $s $v)
noncomputable section

section
namespace L3
open PySem
inductive D where
 | non
 | bl (b:Bool)
 | int (i:Int)
 | str (x:Str)
 | tup (xs:List D)
 | lst (xs:List D)
 | jW (ns:List Int)
 | lB (ks:List (Sum Int Str)) (xs:List D)
 | dF (q:Nat->Obj->Prop) (ks:List (Sum (Sum Int Str) (List (Sum (Sum Int Str) (List (Sum Int Str)))))) (xs:List D)
 | exc (c:Str) (a:Nat)
mutual
def D.vN:D->Bool
 | .non=>true
 | .bl _=>true
 | .int _=>true
 | .str _=>true
 | .tup ds=>kW ds
 | .lst _=>false
 | .jW _=>true
 | .lB _ _=>false
 | .dF _ _ _=>false
 | .exc _ _=>true
def kW:List D->Bool
 | []=>true
 | d::ds=>d.vN&&kW ds
end
abbrev bR:=List (Option D)
inductive Sv where
 | no
 | ro (d:D)
 | ow (d:D)
abbrev aP:=List Sv
def Sv.all:Sv->Option D
 | .no=>none
 | .ro d=>some d
 | .ow d=>some d
def Sv.rd:Sv->Option D
 | .ro d=>some d
 | _=>none
def bT (ρ:aP):bR:=ρ.map Sv.all
def kD (ρ:aP):bR:=ρ.map Sv.rd
end L3
namespace L4
open PySem L3
inductive M (α:Type) where
 | no
 | ex (c:Str)
 | ok (a:α)
inductive Out where
 | no
 | nx (ρ:aP)
 | rt (d:D)
 | ex (c:Str)
abbrev EF:=bR->Option D
abbrev TF:=bR->Option Bool
abbrev AF:=bR->Option (List D)
abbrev XF:=aP->Option (aP×D)
abbrev SF:=aP->Out
abbrev eT:=List D->M D
def uK:Nat:=16777216
def aB (i:Nat):EF:=fun ρ=>(ρ[i]?).join
def eC (d:D):EF:=fun _=>some d
def aC (g:D->D->Option D) (a b:EF):EF:=fun ρ=>(a ρ).bind fun x=>(b ρ).bind fun y=>g x y
def iP:D->Option Bool
 | .bl b=>some b
 | .lst ds=>some (!ds.isEmpty)
 | .tup ds=>some (!ds.isEmpty)
 | _=>none
def tV (f:EF):TF:=fun ρ=>(f ρ).bind iP
def hZ (t:TF):TF:=fun ρ=>(t ρ).map (!·)
def kX (t u:TF):TF:=fun ρ=>(t ρ).bind fun b=>if b=true then u ρ else some false
def u4 (t u:TF):TF:=fun ρ=>(t ρ).bind fun b=>if b=true then some true else u ρ
def EQ:D->Option Bool
 | .bl b=>some b
 | _=>none
def kE (a b:EF):EF:=fun ρ=>(a ρ).bind fun x=>(EQ x).bind fun c=>if c=true then b ρ else some (.bl false)
def eOr (a b:EF):EF:=fun ρ=>(a ρ).bind fun x=>(EQ x).bind fun c=>if c=true then some (.bl true) else b ρ
def W8 (a:EF):EF:=fun ρ=>(a ρ).bind fun x=>(EQ x).map fun c=>.bl (!c)
def eIf (t:TF) (a b:EF):EF:=fun ρ=>(t ρ).bind fun c=>if c=true then a ρ else b ρ
def aDb:D->Option D
 | .int i=>some (.int (-i))
 | _=>none
def mW (a:EF):EF:=fun ρ=>(a ρ).bind aDb
def kF (f g:D->D->Option D) (a b c:EF):EF:=fun ρ=>(a ρ).bind fun x=>(b ρ).bind fun y=>(f x y).bind fun z=>(EQ z).bind fun k=>if k=true then (c ρ).bind fun w=>g y w else some (.bl false)
def HP (g:Int->Int->D):D->D->Option D
 | .int i,.int j=>some (g i j)
 | _,_=>none
def lC (c:Int->Int->Bool) (g:Int->Int->D):D->D->Option D
 | .int i,.int j=>if c i j=true then some (g i j) else none
 | _,_=>none
def bO:D->D->Option D
 | .int i,.int j=>some (.int (i+j))
 | .lst a,.lst b=>if a.length+b.length<=uK then some (.lst (a++b)) else none
 | .tup a,.tup b=>if a.length+b.length<=uK then some (.tup (a++b)) else none
 | .str a,.str b=>if a.length+b.length<=uK then some (.str (a++b)) else none
 | _,_=>none
def fE:D->D->Option D:=HP fun i j=>.int (i - j)
def ER (i j:Int):Bool:=decide (i.natAbs<18446744073709551616)||decide (j.natAbs<18446744073709551616)||decide (i.natAbs.log2+j.natAbs.log2<=134217700)
def mulM:D->D->Option D:=lC ER fun i j=>.int (i*j)
def dI:D->D->Option D:=lC (fun _ j=>decide (0<j)) fun i j=>.int (i % j)
def mX:D->D->Option D:=lC (fun _ j=>decide (0<j)&&decide (j.natAbs<1073741824)) fun i j=>.int (i / j)
def HQ:D->D->Option D:=lC (fun i j=>decide (0<=j)&&decide (j.natAbs<=1000000)&&decide (i.natAbs<18446744073709551616)) fun i j=>.int (i ^ j.toNat)
def W2:D->D->Option D:=HP fun i j=>.bl (decide (i<j))
def W9:D->D->Option D:=HP fun i j=>.bl (decide (i<=j))
def tL:D->D->Option D:=HP fun i j=>.bl (decide (j<i))
def geM:D->D->Option D:=HP fun i j=>.bl (decide (j<=i))
def aAO:D->D->Option Bool
 | .int i,.int j=>some (decide (i=j))
 | .bl i,.bl j=>some (decide (i=j))
 | .str i,.str j=>some (decide (i=j))
 | .non,.non=>some true
 | _,_=>none
def kT:D->D->Option D:=fun x y=>(aAO x y).map .bl
def KU:D->D->Option D:=fun x y=>(aAO x y).map fun b=>.bl (!b)
def KW:D->Bool
 | .non=>true
 | _=>false
def isM:D->D->Option D:=fun x y=>if KW y=true then some (.bl (KW x)) else none
def intsOf:List D->Option (List Int)
 | []=>some []
 | .int i::ds=>(intsOf ds).map (i :: ·)
 | _::_=>none
def lY (neg:Bool):D->D->Option D
 | .int i,.tup ds=>(intsOf ds).map fun ns=>.bl (if neg then !ns.contains i else ns.contains i)
 | .int i,.lst ds=>(intsOf ds).map fun ns=>.bl (if neg then !ns.contains i else ns.contains i)
 | _,_=>none
def XA (n:Nat) (i:Int):Option Nat:=if 0<=i then (if i<n then some i.toNat else none) else if -(n:Int)<=i then some (i+n).toNat else none
def zG {α:Type} (xs:List α) (i:Int):Option α:=(XA xs.length i).bind fun j=>xs[j]?
def aY:D->D->Option D
 | .lst a,.int i=>zG a i
 | .tup a,.int i=>zG a i
 | .jW a,.int i=>(zG a i).map D.int
 | _,_=>none
def v0:D->Option (Sum Int Str)
 | .int i=>some (.inl i)
 | .str x=>some (.inr x)
 | _=>none
def lD (ks:List (Sum Int Str)) (ds:List D) (k:Sum Int Str):Option D:=((ks.zip ds).find? fun kv=>decide (kv.1=k)).map (·.2)
def wB:D->D->Option D
 | .lB ks ds,d=>(v0 d).bind fun k=>lD ks ds k
 | _,_=>none
def aE:AF:=fun _=>some []
def aA (a:EF) (t:AF):AF:=fun ρ=>(a ρ).bind fun d=>(t ρ).bind fun ds=>some (d::ds)
def dG (t:AF):EF:=fun ρ=>(t ρ).bind fun ds=>if ds.length<=uK then some (.tup ds) else none
def dL (t:AF):EF:=fun ρ=>(t ρ).bind fun ds=>if ds.length<=uK then some (.lst ds) else none
def bF (g:List D->Option D) (t:AF):EF:=fun ρ=>(t ρ).bind g
def Q5:M D->Option D
 | .ok d=>some d
 | _=>none
def aG (R:eT) (t:AF):EF:=fun ρ=>(t ρ).bind fun ds=>Q5 (R ds)
def aV:List D->Option D
 | [.lst a]=>some (.int a.length)
 | [.tup a]=>some (.int a.length)
 | [.jW a]=>some (.int a.length)
 | _=>none
def bW:List D->Option D
 | [.lst a]=>some (.tup a)
 | [.tup a]=>some (.tup a)
 | _=>none
def rM:List D->Option D
 | [.lst a]=>some (.lst a)
 | [.tup a]=>some (.lst a)
 | _=>none
def insI (a:Int):List Int->List Int
 | []=>[a]
 | b::l=>if a<=b then a::b::l else b::insI a l
def sortI:List Int->List Int
 | []=>[]
 | a::l=>insI a (sortI l)
def gE:List D->Option D
 | [.lst a]=>(intsOf a).bind fun ns=>if ns.length<64 then some (.lst ((sortI ns).map D.int)) else none
 | _=>none
def u7:List D->Option D
 | [.lst a]=>(intsOf a).map fun ns=>.int ns.sum
 | _=>none
def qC:List D->Option (List Bool)
 | []=>some []
 | d::ds=>(iP d).bind fun b=>(qC ds).map (b :: ·)
def allM:List D->Option D
 | [.lst a]=>(qC a).map fun bs=>.bl (bs.all id)
 | _=>none
def anyM:List D->Option D
 | [.lst a]=>(qC a).map fun bs=>.bl (bs.any id)
 | _=>none
def tyM:D->String
 | .non => "NoneType"
 | .bl _ => "bool"
 | .int _ => "int"
 | .str _ => "str"
 | .tup _ => "tuple"
 | .lst _ => "list"
 | .jW _ => "list"
 | .lB _ _ => "dict"
 | .dF _ _ _ => "dict"
 | .exc _ _ => "NoneType"
def aBE (T:String) (d:D):Bool:=tyM d == T||(T == "int" && tyM d == "bool")
def aBF:D->Bool
 | .exc _ _=>false
 | .dF _ _ _=>false
 | _=>true
def nP (T:String) (a:EF):EF:=fun ρ=>(a ρ).bind fun d=>if aBF d=true then some (.bl (aBE T d)) else none
def bG (lo:Int) (n:Nat):List Int:=(List.range n).map fun k:Nat=>lo+(k:Int)
def aII (hi:Int) (n:Nat):List Int:=(List.range n).map fun k:Nat=>hi - (k:Int)
def HR (t:AF):EF:=fun ρ=>(t ρ).bind fun ds=>match ds with
 | [.int j]=>if j.natAbs<=16777216 then some (.lst ((bG 0 j.toNat).map D.int)) else none
 | _=>none
def aAP:List D->Option D
 | [.int i,.int j]=>some (.int (if j>i then j else i))
 | _=>none
def repLM:D->D->Option D
 | .lst a,.int n=>if a.length*n.toNat<=uK/\n.natAbs<9223372036854775808 then some (.lst (List.replicate n.toNat a).flatten) else none
 | _,_=>none
def ES:D->D->Option D
 | .lst a,.lst b=>if a.length+b.length<=uK then some (.lst (a++b)) else none
 | _,_=>none
def ET:D->Option (List D)
 | .lst ds=>some ds
 | .tup ds=>some ds
 | _=>none
def dD (f:EF):AF:=fun ρ=>(f ρ).bind ET
def HS:List D->Option (List D)
 | [.int j]=>if j.natAbs<4611686018427387904 then some ((bG 0 j.toNat).map D.int) else none
 | [.int i,.int j]=>if i.natAbs<4611686018427387904/\j.natAbs<4611686018427387904 then some ((bG i (j - i).toNat).map D.int) else none
 | [.int i,.int j,.int k]=>if k=-1/\i.natAbs<1000000/\j.natAbs<1000000 then some ((aII i (i - j).toNat).map D.int) else none
 | _=>none
def aR (t:AF):AF:=fun ρ=>(t ρ).bind HS
def KY:List D->Option (List D)
 | [.lst ds]=>some (ds.zipIdx.map fun p=>.tup [.int (p.2:Int),p.1])
 | [.tup ds]=>some (ds.zipIdx.map fun p=>.tup [.int (p.2:Int),p.1])
 | _=>none
def nV (t:AF):AF:=fun ρ=>(t ρ).bind KY
def aIJ:List D->Option (List D)
 | [a,b]=>(ET a).bind fun xs=>(ET b).map fun ys=>(xs.zip ys).map fun p=>.tup [p.1,p.2]
 | _=>none
def aIK (t:AF):AF:=fun ρ=>(t ρ).bind aIJ
def aBG:List D->Option (List D)
 | [.lst ds]=>some ds.reverse
 | [.tup ds]=>some ds.reverse
 | _=>none
def XB (t:AF):AF:=fun ρ=>(t ρ).bind aBG
abbrev HU:=D->bR->Option bR
def g1 (i:Nat):HU:=fun d ρ=>some (ρ.set i (some d))
def KZ:D->Option (D×D)
 | .tup [x,y]=>some (x,y)
 | _=>none
def g2 (i j:Nat):HU:=fun d ρ=>(KZ d).map fun p=>(ρ.set i (some p.1)).set j (some p.2)
def cH:TF:=fun _=>some true
def benv (nl:Nat) (fr:List Nat) (ρ:bR):bR:=List.replicate nl none++fr.map fun j=>(ρ[j]?).join
def kG (g:HU) (t:TF) (e:EF) (ρ:bR):List D->Option (List D)
 | []=>some []
 | d::ds=>(g d ρ).bind fun ρ1=>(t ρ1).bind fun b=>if b=true then (e ρ1).bind fun y=>(kG g t e ρ ds).map (y :: ·) else kG g t e ρ ds
def bJ (nl:Nat) (fr:List Nat) (it:AF) (g:HU) (t:TF) (e:EF):EF:=fun ρ=>(it ρ).bind fun ds=>if ds.length<=uK then (kG g t e (benv nl fr ρ) ds).map D.lst else none
abbrev OF:=bR->Option (Option Int)
def W3:OF:=fun _=>some none
def asInt:D->Option Int
 | .int i=>some i
 | _=>none
def oE (f:EF):OF:=fun ρ=>(f ρ).bind fun d=>(asInt d).map some
def EU (n d:Nat):Option Int->Nat
 | none=>d
 | some i=>if i<0 then (i+n).toNat else min i.toNat n
def wD (xs:List D) (lo hi:Option Int):List D:=(xs.drop (EU xs.length 0 lo)).take (EU xs.length xs.length hi - EU xs.length 0 lo)
def slM (d:D) (lo hi:Option Int):Option D:=match d with
 | .lst ds=>some (.lst (wD ds lo hi))
 | .tup ds=>some (.tup (wD ds lo hi))
 | _=>none
def K0 (f:EF) (lo hi:OF):EF:=fun ρ=>(f ρ).bind fun d=>(lo ρ).bind fun l=>(hi ρ).bind fun h=>slM d l h
def fZ (f:EF):XF:=fun ρ=>(f (bT ρ)).bind fun d=>if d.vN=true then some (ρ,d) else none
def aZ (f:EF):XF:=fun ρ=>(f (kD ρ)).bind fun d=>some (ρ,d)
def nQ:Option Sv->Option (List D)
 | some (.ow (.lst ds))=>some ds
 | _=>none
def kU (i:Nat) (m:List D->D->Option (List D×D)) (x:XF):XF:=fun ρ=>(nQ ρ[i]?).bind fun _=>(x ρ).bind fun p=>(nQ p.1[i]?).bind fun ds=>(m ds p.2).map fun q=>(p.1.set i (.ow (.lst q.1)),q.2)
def eX:List D->D->Option (List D×D):=fun ds d=>if ds.length<uK then some (ds++[d],.non) else none
def XD:List D->D->Option (List D×D)
 | ds,.int k=>if k.natAbs<9223372036854775808 then (XA ds.length k).bind fun j=>(ds[j]?).map fun d=>(ds.eraseIdx j,d) else none
 | _,_=>none
def NC:List D->D->Option (List D×D)
 | ds,.lst es=>if ds.length+es.length<=uK then some (ds++es,.non) else none
 | _,_=>none
def AN (i:Nat):XF:=fun ρ=>(nQ ρ[i]?).bind fun ds=>(ds[ds.length - 1]?).map fun d=>(ρ.set i (.ow (.lst ds.dropLast)),d)
def bY:SF:=fun ρ=>.nx ρ
def aH (f g:SF):SF:=fun ρ=>match f ρ with
 | .nx ρ'=>g ρ'
 | o=>o
def aU (f:EF):SF:=fun ρ=>match f (bT ρ) with
 | some d=>.rt d
 | none=>.no
def eV (t:TF) (a b:SF):SF:=fun ρ=>match t (bT ρ) with
 | some true=>a ρ
 | some false=>b ρ
 | none=>.no
def aN (i:Nat) (f:EF):SF:=fun ρ=>match f (kD ρ) with
 | some d=>.nx (ρ.set i (.ro d))
 | none=>.no
def uL (i:Nat) (x:XF):SF:=fun ρ=>match x ρ with
 | some p=>.nx (p.1.set i (.ro p.2))
 | none=>.no
def iA (i:Nat) (f:EF):SF:=fun ρ=>match f (kD ρ) with
 | some d=>.nx (ρ.set i (.ow d))
 | none=>.no
def qD:D->Bool
 | .lst ds=>kW ds
 | _=>false
def aDc (i:Nat) (f:EF):SF:=fun ρ=>match f (bT ρ) with
 | some d=>if qD d=true then .nx (ρ.set i (.ow d)) else .no
 | none=>.no
def lZ (i:Nat) (f:EF):SF:=fun ρ=>match f (bT ρ) with
 | some d=>if qD d=true then .nx (ρ.set i (.ro d)) else .no
 | none=>.no
def Q6 (i:Nat):SF:=fun ρ=>.nx (ρ.set i (.ow (.lB [] [])))
def sX (x:XF):SF:=fun ρ=>match x ρ with
 | some p=>.nx p.1
 | none=>.no
def aIL (i:Nat) (x:XF) (k:EF):SF:=fun ρ=>match ((x ρ).bind fun p=>(nQ p.1[i]?).bind fun ds=>(k (bT p.1)).bind fun kd=>(asInt kd).bind fun kk=>(XA ds.length kk).map fun j=>p.1.set i (.ow (.lst (ds.set j p.2)))) with
 | some ρ'=>.nx ρ'
 | none=>.no
def wF:Option Sv->Option (List (Sum Int Str)×List D)
 | some (.ow (.lB ks ds))=>some (ks,ds)
 | _=>none
def K1 (i:Nat) (x:XF) (k:EF):SF:=fun ρ=>match ((x ρ).bind fun p=>(wF p.1[i]?).bind fun kd=>(k (bT p.1)).bind fun kv=>(v0 kv).bind fun kk =>
  if (lD kd.1 kd.2 kk).isNone=true/\kd.2.length<uK then some (p.1.set i (.ow (.lB (kd.1++[kk]) (kd.2++[p.2])))) else none) with
 | some ρ'=>.nx ρ'
 | none=>.no
abbrev K2:=D->aP->Option aP
def lE (i:Nat):K2:=fun d ρ=>some (ρ.set i (.ro d))
def HK (i j:Nat):K2:=fun d ρ=>(KZ d).map fun p=>(ρ.set i (.ro p.1)).set j (.ro p.2)
def gU (g:K2) (b:SF):List D->aP->Out
 | [],ρ=>.nx ρ
 | d::ds,ρ=>match g d ρ with
  | none=>.no
  | some ρ1=>match b ρ1 with
   | .nx ρ2=>gU g b ds ρ2
   | o=>o
def dE (it:AF) (g:K2) (b:SF):SF:=fun ρ=>match it (kD ρ) with
 | some ds=>gU g b ds ρ
 | none=>.no
def eZ (t:TF) (b:SF):Nat->aP->Out
 | 0,_=>.no
 | n+1,ρ=>match t (bT ρ) with
  | none=>.no
  | some false=>.nx ρ
  | some true=>match b ρ with
   | .nx ρ'=>eZ t b n ρ'
   | o=>o
def Q7:Nat:=1000000
def CJ (n:Nat) (t:TF) (b:SF):SF:=eZ t b n
def fA (n:Nat) (ds:List D):aP:=ds.map Sv.ro++List.replicate (n - ds.length) Sv.no
def bK (n np:Nat) (b:SF):eT:=fun ds=>if ds.length=np then (match b (fA n ds) with
 | .rt d=>.ok d
 | .nx _=>.ok .non
 | .ex c=>.ex c
 | .no=>.no) else .no
end L4
end
section
namespace L4
open PySem L3
def aDd:List Int->List Int->Bool
 | [],[]=>false
 | [],_::_=>true
 | _::_,[]=>false
 | a::as,b::bs=>if a=b then aDd as bs else decide (a<b)
def aDe (t:List Int):List (List Int)->List (List Int)
 | []=>[t]
 | u::us=>if aDd u t=true then u::aDe t us else t::u::us
def Q8:List (List Int)->List (List Int)
 | []=>[]
 | t::ts=>aDe t (Q8 ts)
def aIM (t:List Int):D:=.tup (t.map D.int)
def aDf:D->Option (List Int)
 | .tup ds=>intsOf ds
 | _=>none
def Q9:List D->Option (List (List Int))
 | []=>some []
 | d::ds=>(aDf d).bind fun t=>(Q9 ds).map (t :: ·)
def CK:List D->Option D
 | [.lst a]=>(Q9 a).bind fun ts=>if ts.length<64/\ts.all (fun t=>!t.isEmpty)=true then some (.lst ((Q8 ts).map aIM)) else none
 | _=>none
def u9 (f:D->D->Option Bool):List D->List D->Option Bool
 | d::ds,e::es=>(f d e).bind fun x=>(u9 f ds es).map (x && ·)
 | _,_=>some true
def eqP:Nat->D->D->Option Bool
 | _,.int i,.int j=>some (decide (i=j))
 | _,.bl i,.bl j=>if i=j then some true else none
 | _,.str i,.str j=>if i=j then some true else none
 | n+1,.tup a,.tup b=>(u9 (eqP n) a b).map fun r=>r&&decide (a.length=b.length)
 | _,_,_=>none
def qE:D->D->Option D:=fun x y=>(eqP 8 x y).map D.bl
def EV:D->D->Option D:=fun x y=>(eqP 8 x y).map fun b=>.bl (!b)
##mB {f:D->D->Option Bool}:∀ {a b:List D} {r:Bool},u9 f a b=some r -> ∃ e:Nat->Bool,(∀ (j:Nat) (x y:D),a[j]? = some x->b[j]? = some y->f x y=some (e j))/\r=(List.range (min a.length b.length)).all e
 | [],b,r,h=>by cases h; !⟨fun _=>true,fun j x y h1=>by simp at h1,by simp⟩
 | d::ds,[],r,h=>by cases h; !⟨fun _=>true,fun j x y _ h2=>by simp at h2,by simp⟩
 | d::ds,c::cs,r,h=>by
  ~u9 at h
  cases q:f d c with
  | none=>rw [q] at h; cases h
  | some x =>
   rw [q] at h
   cases q2:u9 f ds cs with
   | none=>simp [q2] at h
   | some y =>
    simp [q2] at h
    &⟨e,h1,h2⟩:=mB q2
    @⟨fun j=>match j with | 0=>x | j+1=>e j,fun j u v e1 e2=>?_,?_⟩
    ·cases j with
     | zero=>cases e1; cases e2; !q
     | succ j=>!h1 j u v (¥e1) (¥e2)
    ·rw [<- h,h2,List.length_cons,List.length_cons,show min (ds.length+1) (cs.length+1)=min ds.length cs.length+1 by omega,List.range_succ_eq_map,List.all_cons,List.all_map]
     rfl
def aIN (ρ:aP) (i:Nat):aP:=match ρ[i]? with
 | some (.ow d)=>ρ.set i (.ro d)
 | _=>ρ
def XE (i:Nat) (f:SF):SF:=fun ρ=>f (aIN ρ i)
def aIO:List D->Option D
 | [.lst [d]]=>some (.lst [d])
 | ds=>CK ds
def aDg:List D->Option D
 | [.tup a]=>(intsOf a).map fun ns=>.int ns.sum
 | _=>none
abbrev RF:=bR->Option Str
def aDh:M D->Option Str
 | .ex c=>some c
 | _=>none
def wH (R:eT) (t:AF):RF:=fun ρ=>(t ρ).bind fun ds=>aDh (R ds)
def wJ (r:RF) (f:SF):SF:=fun ρ=>match r (bT ρ) with
 | some c=>.ex c
 | none=>f ρ
def rN (t:AF) (c:Str):SF:=fun ρ=>match t (bT ρ) with
 | some ds=>if ds.length<=10 then .ex c else .no
 | none=>.no
def aPN:D->Option D
 | .lst ds=>some (.lst ds.reverse)
 | _=>none
def HV (x:XF) (g:K2):SF:=fun ρ=>match (x ρ).bind fun p=>g p.2 p.1 with
 | some ρ'=>.nx ρ'
 | none=>.no
def aIP:D->D->Option Bool
 | .lst a,.lst b=>(intsOf a).bind fun x=>(intsOf b).map fun y=>decide (x=y)
 | _,_=>none
def CL:List Int->Int
 | []=>0
 | a::l=>l.foldl (fun m b=>if m<b then b else m) a
def XG (f:SF):SF:=fun ρ=>match f ρ with
 | .ex _=>.no
 | o=>o
def putN (ns:List Int) (k:Int):List Int:=if k∈ns then ns else ns++[k]
def CM (ns:List Int):List Int:=ns.foldl putN []
def gF:List D->Option D
 | [.tup ds]=>(intsOf ds).bind fun ns=>if ns.length<64 then some (.lst ((sortI (CM ns)).map D.int)) else none
 | _=>none
def ND (i j:Nat) (t:AF):SF:=fun ρ=>match t (kD ρ) with
 | some [x,y]=>.nx ((ρ.set i (.ro x)).set j (.ro y))
 | _=>.no
def RA:List D->Option D
 | [.tup ds]=>(intsOf ds).bind fun ns=>if ns.length<64 then some (.lst ((sortI ns).map D.int)) else none
 | _=>none
abbrev vA:Nat->Obj->Prop:=fun _ _=>True
def adr (q:Nat->Obj->Prop):Nat->Obj->Prop:=fun a _=>∃ o,q a o
abbrev zL:=Sum Int Str
abbrev PN1:=List (Sum zL (List zL))
abbrev vO:=Sum zL PN1
def AO:List D->Option (List zL)
 | []=>some []
 | d::ds=>(v0 d).bind fun k=>(AO ds).map (k :: ·)
def aAQ:D->Option (Sum zL (List zL))
 | .tup ds=>(AO ds).map .inr
 | d=>(v0 d).map .inl
def tM:List D->Option PN1
 | []=>some []
 | d::ds=>(aAQ d).bind fun k=>(tM ds).map (k :: ·)
def nW:D->Option vO
 | .tup ds=>(tM ds).map .inr
 | d=>(v0 d).map .inl
def dK:zL->D
 | .inl i=>.int i
 | .inr x=>.str x
def RB:Sum zL (List zL)->D
 | .inl k=>dK k
 | .inr ks=>.tup (ks.map dK)
def dKX:vO->D
 | .inl k=>dK k
 | .inr ks=>.tup (ks.map RB)
def cP (ks:List vO) (ds:List D) (k:vO):Option D:=((ks.zip ds).find? fun p=>decide (p.1=k)).map (·.2)
def kindB (ks:List vO) (k:vO):Bool:=ks.all fun q=>q.isLeft == k.isLeft
def pS:D->D->Option D
 | .dF _ ks ds,d=>(nW d).bind fun k=>if kindB ks k=true then cP ks ds k else none
 | _,_=>none
def zM (neg:Bool):D->D->Option D
 | d,.dF _ ks ds=>(nW d).bind fun k=>if kindB ks k=true then some (.bl (if neg then !(cP ks ds k).isSome else (cP ks ds k).isSome)) else none
 | _,_=>none
def RC:D->D->D->Option D
 | .dF _ ks ds,d,z=>(nW d).bind fun k=>if kindB ks k=true then some ((cP ks ds k).getD z) else none
 | _,_,_=>none
def K3 (a b c:EF):EF:=fun ρ=>(a ρ).bind fun x=>(b ρ).bind fun y=>(c ρ).bind fun z=>RC x y z
def fO (ks:List vO) (ds:List D) (k:vO) (v:D):List vO×List D :=
 if ks.any (fun q=>decide (q=k))=true then (ks,(ks.zip ds).map fun p=>if p.1=k then v else p.2) else (ks++[k],ds++[v])
def RD:D->Option (List D)
 | .dF _ ks _=>some (ks.map dKX)
 | _=>none
def HW (f:EF):AF:=fun ρ=>(f ρ).bind RD
def EW:Option Sv->Option ((Nat->Obj->Prop)×List vO×List D)
 | some (.ow (.dF q ks ds))=>some (q,ks,ds)
 | _=>none
def EX (i:Nat):SF:=fun ρ=>.nx (ρ.set i (.ow (.dF vA [] [])))
def CN (i:Nat) (k v:EF):SF:=fun ρ=>match (k (kD ρ)).bind fun kd=>(v (kD ρ)).bind fun d=>(nW kd).map fun kk=>(kk,d) with
 | some p=>.nx (ρ.set i (.ow (.dF vA [p.1] [p.2])))
 | none=>.no
def mC (i:Nat) (x:XF) (k:EF):SF:=fun ρ=>match ((x ρ).bind fun p=>(EW p.1[i]?).bind fun kd=>(k (bT p.1)).bind fun kv=>(nW kv).bind fun kk =>
  if kindB kd.2.1 kk=true/\kd.2.2.length<uK then some (p.1.set i (.ow (.dF (adr kd.1) (fO kd.2.1 kd.2.2 kk p.2).1 (fO kd.2.1 kd.2.2 kk p.2).2))) else none) with
 | some ρ'=>.nx ρ'
 | none=>.no
def K4 (i j:Nat):SF:=fun ρ=>match ρ[j]? with
 | some (.ow d)=>if i=j then .no else .nx ((ρ.set j .no).set i (.ow d))
 | _=>.no
def aDi:List D->Option (List D)
 | [.lst xs,.lst ys]=>some ((xs.zip ys).map fun p=>.tup [p.1,p.2])
 | _=>none
def RE (t:AF):AF:=fun ρ=>(t ρ).bind aDi
def aIQ:List Int->Int
 | []=>0
 | a::l=>l.foldl (fun m b=>if b<m then b else m) a
def aAR:List D->Option D
 | [.tup ds]=>(intsOf ds).bind fun ns=>if ns=[] then none else some (.int (aIQ ns))
 | _=>none
def aIR:D->D->Option D:=fun x y=>(aIP x y).map D.bl
abbrev KD:=List vO×List D
abbrev FnM:=List D->KD->M (D×KD)
def startM (n:Nat) (ds:List D) (q:Nat->Obj->Prop) (kd:KD):aP:=ds.map Sv.ro++Sv.ow (.dF q kd.1 kd.2)::List.replicate (n - (ds.length+1)) Sv.no
def aIS (j:Nat) (k:EF) (q:Nat->Obj->Prop):aP->Option (D×KD):=fun ρ=>(EW ρ[j]?).bind fun kd=>(k (kD ρ)).bind fun kv=>(nW kv).bind fun kk=>@ite _ (kindB kd.2.1 kk=true /\ ∀ a o,kd.1 a o -> ∃ o2,q a o2) (Classical.propDecidable _) ((cP kd.2.1 kd.2.2 kk).map fun d=>(d,kd.2)) none
def aDk (n np:Nat) (b:SF) (k:EF) (q:Nat->Obj->Prop) (ds:List D) (kd:KD):Option (D×KD):=if ds.length+1=np then (match b (startM n ds q kd) with
 | .nx ρ=>aIS (np - 1) k q ρ
 | _=>none) else none
def runM (n np:Nat) (b:SF) (k:EF):FnM:=fun ds kd=>@dite _ (∃ r,∀ q,aDk n np b k q ds kd=some r) (Classical.propDecidable _) (fun h=>.ok h.choose) fun _=>.no
def stepM (R:FnM) (t:AF) (j:Nat) (ρ:aP):Option ((Nat->Obj->Prop)×D×KD):=(t (kD ρ)).bind fun ds=>(EW ρ[j]?).bind fun kd=>match R ds kd.2 with
 | .ok r=>some (kd.1,r)
 | _=>none
def aBI (i:Nat) (R:FnM) (t:AF) (j:Nat):SF:=fun ρ=>match stepM R t j ρ with
 | some r=>.nx ((ρ.set j (.ow (.dF (adr r.1) r.2.2.1 r.2.2.2))).set i (.ro r.2.1))
 | none=>.no
def aIT (R:FnM) (t:AF) (j:Nat):SF:=fun ρ=>match stepM R t j ρ with
 | some r=>.nx (ρ.set j (.ow (.dF (adr r.1) r.2.2.1 r.2.2.2)))
 | none=>.no
def nnC (i j:Int):Bool:=decide (0<=i)&&decide (0<=j)
def wK:D->D->Option D:=lC (fun i j=>decide (0<=j)&&decide (j.natAbs<=1000000)&&decide (i.natAbs<18446744073709551616)) fun i j=>.int (i*2 ^ j.toNat)
def HX:D->D->Option D:=lC (fun _ j=>decide (0<=j)) fun i j=>.int (i / 2 ^ j.toNat)
def nX:D->D->Option D:=lC nnC fun i j=>.int ((i.toNat &&& j.toNat:Nat):Int)
def HY:D->D->Option D:=lC nnC fun i j=>.int ((i.toNat ||| j.toNat:Nat):Int)
def K5:List D->Option D
 | [.lst ds]=>(intsOf ds).bind fun ns=>if ns=[] then none else some (.int (CL ns))
 | _=>none
end L4
end
section
namespace Ord
structure Rows (rows:List (List Int)):Prop where
 up:∀ (b:Nat) (r:List Int),rows[b]? = some r->r.Pairwise (·<·)
 rng:∀ (b:Nat) (r:List Int),rows[b]? = some r -> ∀ a∈r,0<=a/\a<(rows.length:Int)
 tr:∀ (b a:Nat) (r v:List Int),rows[b]? = some r->(a:Int)∈r->rows[a]? = some v -> ∀ c∈v,c∈r
 W4:∀ (b:Nat) (r:List Int),rows[b]? = some r->(b:Int)∉r
##wL {α:Type}:∀ (l:List α) (j:Nat) (x:α),l[j]? = some x->(x::l.eraseIdx j).Perm l
 | [],j,x,h=>by simp at h
 | a::l,0,x,h=>by simp at h; subst h; simp
 | a::l,j+1,x,h=>by
  have ih:=wL l j x (¥h)
  rw [List.eraseIdx_cons_succ]
  !(List.Perm.swap a x _).trans (ih.cons a)
##CO {l:List Int} (p:Int->Bool) (h:l.Nodup):(l.filter p).Nodup:=List.Pairwise.filter p h
def Under (word:List Int) (us:List (List Int)) (t:Nat) (u:List Int):Prop :=
 u.Nodup /\ ∀ a∈u,∃ (s:Nat) (v:List Int),s<t/\word[s]? = some a/\us[s]? = some v /\ ∀ c∈v,c∈u
def Good (word:List Int) (us:List (List Int)):Prop:=∀ (t:Nat) (u:List Int),us[t]? = some u->Under word us t u
##Under.mono {word:List Int} {us:List (List Int)} {t t':Nat} {u:List Int} (h:Under word us t u) (ht:t<=t'):Under word us t' u :=
 ⟨h.1,fun a ha=>by &⟨s,v,h1,h2,h3,h4⟩:=h.2 a ha; !⟨s,v,by omega,h2,h3,h4⟩⟩
##wM {word:List Int} (h:word.Nodup) {i j:Nat} {a:Int} (hi:word[i]? = some a) (hj:word[j]? = some a):i=j:=by
 &⟨h1,e1⟩:=List.getElem?_eq_some_iff.mp hi
 &⟨h2,e2⟩:=List.getElem?_eq_some_iff.mp hj
 !(List.getElem_inj h).mp (e1.trans e2.symm)
##Under.step {word:List Int} {us:List (List Int)} {i:Nat} {u v:List Int} {x:Int} (hw:word.Nodup) (g:Good word us) (h:Under word us i u) (hx:word[i]? = some x) (hv:us[i]? = some v) :
  Under word us (i+1) (u++(v++[x]).filter fun a=>!u.contains a):=by
 have gv:=g i v hv
 have mem:∀ c,c∈v++[x]->c∈u++(v++[x]).filter fun a=>!u.contains a:=fun c hc=>by
  by_cases hu:c∈u
  ·!List.mem_append_left _ hu
  ·!List.mem_append_right _ (List.mem_filter.mpr ⟨hc,¥hu⟩)
 have nv:(v++[x]).Nodup:=by
  @List.nodup_append.mpr ⟨gv.1,by simp,fun a ha b hb e=>?_⟩
  have hb:=List.mem_singleton.mp hb
  subst hb
  subst e
  &⟨s,_,h1,h2,_⟩:=gv.2 a ha
  have:=wM hw h2 hx
  omega
 @⟨List.nodup_append.mpr ⟨h.1,CO _ nv,fun a ha b hb e=>?_⟩,fun a ha=>?_⟩
 ·subst e
  have:=(List.mem_filter.mp hb).2
  simp at this
  !this ha
 ·rcases List.mem_append.mp ha with h1 | h1
  ·&⟨s,z,a1,a2,a3,a4⟩:=h.2 a h1
   !⟨s,z,by omega,a2,a3,fun c hc=>List.mem_append_left _ (a4 c hc)⟩
  ·rcases List.mem_append.mp (List.mem_filter.mp h1).1 with h2 | h2
   ·&⟨s,z,a1,a2,a3,a4⟩:=gv.2 a h2
    !⟨s,z,by omega,a2,a3,fun c hc=>mem c (List.mem_append_left _ (a4 c hc))⟩
   ·have e:=List.mem_singleton.mp h2
    subst e
    !⟨i,v,by omega,hx,hv,fun c hc=>mem c (List.mem_append_left _ hc)⟩
##Good.snoc {word:List Int} {us:List (List Int)} {u:List Int} (g:Good word us) (h:Under word us us.length u):Good word (us++[u]):=fun t z e=>by
 have old:∀ {s:Nat} {v:List Int},us[s]? = some v->(us++[u])[s]? = some v:=fun {s v} e=>by rw [List.getElem?_append_left (List.getElem?_eq_some_iff.mp e).1]; !e
 have up:∀ {t:Nat} {z:List Int},Under word us t z->Under word (us++[u]) t z:=fun {t z} q=>⟨q.1,fun a ha=>by &⟨s,v,a1,a2,a3,a4⟩:=q.2 a ha; !⟨s,v,a1,a2,old a3,a4⟩⟩
 by_cases ht:t<us.length
 ·rw [List.getElem?_append_left ht] at e
  !up (g t z e)
 ·have et:t=us.length:=by
   have:=(List.getElem?_eq_some_iff.mp e).1
   simp at this
   omega
  subst et
  rw [List.getElem?_append_right (Nat.le_refl _),Nat.sub_self] at e
  have e:u=z:=¥e
  subst e
  !up h
##Good.rows {word:List Int} {us rows:List (List Int)} {n:Nat} (g:Good word us) (hu:us.length=n) (hw:word.Perm ((List.range n).map fun k:Nat=>(k:Int))) (hr:rows.length=n)
  (h:∀ (b t:Nat) (r u:List Int),rows[b]? = some r->word[t]? = some (b:Int)->us[t]? = some u->r.Perm u/\r.Pairwise (· <= ·)):Rows rows:=by
 have nd:word.Nodup:=hw.nodup_iff.mpr (by
  @List.Pairwise.map _ (fun a b hab=>?_) List.nodup_range
  intro e
  !hab °)
 have find:∀ (b:Nat),b<n -> ∃ t u,word[t]? = some (b:Int)/\us[t]? = some u:=fun b hb=>by
  have hm:(b:Int)∈word:=hw.mem_iff.mpr (List.mem_map.mpr ⟨b,List.mem_range.mpr hb,rfl⟩)
  &⟨t,ht⟩:=List.mem_iff_getElem?.mp hm
  have hl:word.length=n:=by rw [hw.length_eq,List.length_map,List.length_range]
  have:=(List.getElem?_eq_some_iff.mp ht).1
  !⟨t,us[t]'°,ht,List.getElem?_eq_getElem °⟩
 have row:∀ (b:Nat) (r:List Int),rows[b]? = some r -> ∃ t u,word[t]? = some (b:Int)/\us[t]? = some u/\r.Perm u/\r.Pairwise (· <= ·):=fun b r e=>by
  have hb:=(List.getElem?_eq_some_iff.mp e).1
  &⟨t,u,h1,h2⟩:=find b °
  !⟨t,u,h1,h2,h b t r u e h1 h2⟩
 @⟨fun b r e=>?_,fun b r e a ha=>?_,fun b a r v e ha ev c hc=>?_,fun b r e hb=>?_⟩
 ·&⟨t,u,h1,h2,h3,h4⟩:=row b r e
  have n1:r.Nodup:=h3.nodup_iff.mpr (g t u h2).1
  !(List.pairwise_and_iff.mpr ⟨h4,n1⟩).imp fun q=>by have:=q.1; have:=q.2; omega
 ·&⟨t,u,h1,h2,h3,h4⟩:=row b r e
  &⟨s,z,_,a2,_⟩:=(g t u h2).2 a (h3.mem_iff.mp ha)
  have hm:=hw.mem_iff.mp (List.mem_of_getElem? a2)
  &⟨k,hk,rfl⟩:=List.mem_map.mp hm
  have:=List.mem_range.mp hk
  omega
 ·&⟨t,u,h1,h2,h3,h4⟩:=row b r e
  &⟨t2,u2,k1,k2,k3,k4⟩:=row a v ev
  &⟨s,z,_,a2,a3,a4⟩:=(g t u h2).2 _ (h3.mem_iff.mp ha)
  have es:=wM nd a2 k1
  subst es
  rw [k2] at a3
  cases a3
  !h3.mem_iff.mpr (a4 c (k3.mem_iff.mp hc))
 ·&⟨t,u,h1,h2,h3,h4⟩:=row b r e
  &⟨s,z,a1,a2,_⟩:=(g t u h2).2 _ (h3.mem_iff.mp hb)
  have:=wM nd a2 h1
  omega
def tri:Nat->Nat
 | 0=>0
 | j+1=>tri j+j
##aBJ {i j:Nat} (h:i<=j):tri i<=tri j:=by
 induction h with
 | refl=>!Nat.le_refl _
 | step _ ih=>!Nat.le_trans ih (Nat.le_add_right _ _)
##aBK {n j i:Nat} (hj:j<n) (hi:i<j):tri j+i<tri n:=by
 have:=aBJ (show j+1<=n by omega)
 show tri j+i<tri n
 have e:tri (j+1)=tri j+j:=rfl
 omega
##eJ:∀ (l m:List Int),l.Nodup->(∀ a∈l,a∈m)->l.length<=m.length
 | [],m,_,_=>Nat.zero_le _
 | a::l,m,h,hs=>by
  &⟨h1,h2⟩:=List.nodup_cons.mp h
  have ha:=hs a List.mem_cons_self
  have ih:=eJ l (m.erase a) h2 fun b hb=>by
   have:b≠a:=fun e=>h1 (e▸hb)
   !(List.mem_erase_of_ne this).mpr (hs b (List.mem_cons_of_mem _ hb))
  rw [List.length_erase_of_mem ha] at ih
  have:0<m.length:=List.length_pos_of_mem ha
  rw [List.length_cons]
  omega
end Ord
end
section
namespace LL
open PySem L3 L4
def cM:eT:=bK 2 2
  (aH (eV (tV (aC kT (bF aV (aA (aB 0) aE)) (eC (.int 0))))
   (aU (eC (.int 0)))
   bY)
  (aU (aC aY (aB 0) (aC dI (aB 1) (bF aV (aA (aB 0) aE))))))
def fU:eT:=bK 5 3
  (aH (aN 3 (aC dI (aC mulM (aC bO (aC bO (aC bO (aB 0) (aC mulM (aC mulM (eC (.int 11)) (aB 1)) (aB 1))) (aC mulM (eC (.int 17)) (aB 1))) (aB 2)) (eC (.int 48271))) (eC (.int 2147483647))))
  (aH (aN 4 (aC dI (aC bO (aC bO (aC mulM (aB 3) (aC bO (aC mX (aB 3) (eC (.int 4096))) (eC (.int 5)))) (aC mulM (eC (.int 29)) (aB 1))) (aB 2)) (eC (.int 2147483629))))
  (aU (aC dI (aC mulM (aB 4) (eC (.int 39373))) (eC (.int 1000000007))))))
def bX:eT:=bK 6 3
  (aH (iA 3 (dL aE))
  (aH (aN 4 (eC (.int 0)))
  (aH (eV (tV (aC geM (aB 0) (aC HQ (eC (.int 10)) (eC (.int 18)))))
   (aN 4 (aB 0))
   bY)
  (aH (dE (aR (aA (aB 1) aE)) (lE 5)
   (eV (tV (aC tL (aB 4) (eC (.int 0))))
    (aH (sX (kU 3 eX (aZ (aC dI (aB 4) (eC (.int 64))))))
    (aN 4 (aC mX (aB 4) (eC (.int 64)))))
    (sX (kU 3 eX (aZ (aG LL.fU (aA (aB 0) (aA (aB 5) (aA (aB 2) aE)))))))))
  (aU (aB 3))))))
def iD:Nat->eT
 | 0=>fun _=>.no
 | n+1=>bK 2 2
  (aH (eV (tV (nP "tuple" (aB 1)))
   (aH (eV (u4 (hZ (tV (nP "tuple" (aB 0)))) (tV (aC KU (bF aV (aA (aB 0) aE)) (bF aV (aA (aB 1) aE)))))
    (aU (eC (.bl false)))
    bY)
   (aU (bF allM (aA (bJ 1 [0,1] (aR (aA (bF aV (aA (aB 1) aE)) aE)) (g1 0) cH (aG (iD n) (aA (aC aY (aB 1) (aB 0)) (aA (aC aY (aB 2) (aB 0)) aE)))) aE))))
   bY)
  (aH (eV (tV (aC isM (aB 1) (eC .non)))
   (aU (aC isM (aB 0) (eC .non)))
   bY)
  (aH (eV (tV (nP "bool" (aB 1)))
   (aU (kE (nP "bool" (aB 0)) (aC kT (aB 0) (aB 1))))
   bY)
  (aH (eV (tV (nP "int" (aB 1)))
   (aU (kE (nP "int" (aB 0)) (kE (W8 (nP "bool" (aB 0))) (aC kT (aB 0) (aB 1)))))
   bY)
  (aU (kE (nP "str" (aB 0)) (aC kT (aB 0) (aB 1))))))))
def dM:eT:=bK 11 3
  (aH (iA 3 (HR (aA (aB 1) aE)))
  (aH (iA 4 (dL aE))
  (aH (dE (aR (aA (aB 1) aE)) (lE 5)
   (sX (kU 4 eX (kU 3 XD (fZ (aC dI (aC aY (aB 0) (aB 5)) (bF aV (aA (aB 3) aE))))))))
  (aH (Q6 6)
  (aH (aN 7 (aB 1))
  (aH (dE (aR (aA (aB 1) aE)) (lE 8)
   (aH (aN 9 (dL aE))
   (aH (dE (aR (aA (aB 8) aE)) (lE 10)
    (aH (eV (tV (aC W2 (aC dI (aC aY (aB 0) (aB 7)) (eC (.int 4))) (aB 2)))
     (lZ 9 (aC ES (aB 9) (bJ 1 [9] (dD (aC bO (aC wB (aB 6) (aC aY (aB 4) (aB 10))) (dL (aA (aC aY (aB 4) (aB 10)) aE)))) (g1 0) (tV (aC (lY true) (aB 0) (aB 1))) (aB 0))))
     bY)
    (aN 7 (aC bO (aB 7) (eC (.int 1))))))
   (K1 6 (aZ (aB 9)) (aC aY (aB 4) (aB 8))))))
  (aU (bF bW (aA (bJ 1 [6] (aR (aA (aB 1) aE)) (g1 0) cH (bF bW (aA (bF gE (aA (aC wB (aB 1) (aB 0)) aE)) aE))) aE)))))))))
def pA:eT:=bK 7 4
  (aH (aN 4 (aG LL.bX (aA (aG LL.cM (aA (aB 0) (aA (aB 1) aE))) (aA (eC (.int 4)) (aA (aB 3) aE)))))
  (aH (aN 5 (aC dI (aC aY (aB 4) (eC (.int 0))) (aC bO (aB 2) (eC (.int 1)))))
  (aH (aN 6 (aG LL.bX (aA (aG LL.cM (aA (aB 0) (aA (aC bO (aB 1) (eC (.int 1))) aE))) (aA (aC bO (aB 5) (aC mX (aC mulM (aB 5) (aC fE (aB 5) (eC (.int 1)))) (eC (.int 2)))) (aA (aC bO (aB 3) (eC (.int 10007))) aE)))))
  (aU (aG LL.dM (aA (aB 6) (aA (aB 5) (aA (aC aY (dL (aA (eC (.int 1)) (aA (eC (.int 1)) (aA (eC (.int 2)) (aA (eC (.int 2)) (aA (eC (.int 3)) (aA (eC (.int 1)) (aA (eC (.int 0)) (aA (eC (.int 4)) aE))))))))) (aC dI (aC aY (aB 4) (eC (.int 1))) (eC (.int 8)))) aE))))))))
def tupI (xs:List Int):D:=.tup (xs.map D.int)
def aK (xs:List Int):D:=.lst (xs.map D.int)
def aJ (rows:List (List Int)):D:=.tup (rows.map tupI)
##jE {i j:Int}:bO (.int i) (.int j)=some (.int (i+j)):=rfl
##rO {i j:Int}:fE (.int i) (.int j)=some (.int (i - j)):=rfl
##bZ {i j:Int} (h:0<j):dI (.int i) (.int j)=some (.int (i % j)):=by simp [dI,lC,h]
##mD {i j:Int} (h:0<j) (h2:j<1073741824):mX (.int i) (.int j)=some (.int (i / j)):=by simp [mX,lC,h,show j.natAbs<1073741824 by omega]
##K6 {i j:Int}:W2 (.int i) (.int j)=some (.bl (decide (i<j))):=rfl
##CP {i j:Int}:W9 (.int i) (.int j)=some (.bl (decide (i<=j))):=rfl
##jX {i j:Int}:tL (.int i) (.int j)=some (.bl (decide (j<i))):=rfl
##K7 {i j:Int}:geM (.int i) (.int j)=some (.bl (decide (j<=i))):=rfl
##fV {i j:Int}:kT (.int i) (.int j)=some (.bl (decide (i=j))):=rfl
##CQ {i j:Int}:KU (.int i) (.int j)=some (.bl (!decide (i=j))):=rfl
##aBL {i j:Bool}:kT (.bl i) (.bl j)=some (.bl (decide (i=j))):=rfl
##XH {i j:Str}:kT (.str i) (.str j)=some (.bl (decide (i=j))):=rfl
##XI {d:D}:isM d .non=some (.bl (KW d)):=rfl
##K8 {a:List D} {i:Int}:aY (.lst a) (.int i)=zG a i:=rfl
##K9 {a:List D} {i:Int}:aY (.tup a) (.int i)=zG a i:=rfl
##XJ {a:List Int} {i:Int}:aY (.jW a) (.int i)=(zG a i).map D.int:=rfl
##RG {a:List D}:aV [.lst a]=some (.int a.length):=rfl
##wN {a:List D}:aV [.tup a]=some (.int a.length):=rfl
##RH {a:List Int}:aV [.jW a]=some (.int a.length):=rfl
##HZ {a:List D}:bW [.lst a]=some (.tup a):=rfl
##IA {a:List D}:bW [.tup a]=some (.tup a):=rfl
##NE {a:List D}:rM [.lst a]=some (.lst a):=rfl
##NF {a:List D}:rM [.tup a]=some (.lst a):=rfl
##NG {a:List D}:ET (.lst a)=some a:=rfl
##NH {a:List D}:ET (.tup a)=some a:=rfl
##AQ {b:Bool}:iP (.bl b)=some b:=rfl
##IB {b:List D}:iP (.lst b)=some (!b.isEmpty):=rfl
##IC {b:List D}:iP (.tup b)=some (!b.isEmpty):=rfl
##rR {b:Bool}:EQ (.bl b)=some b:=rfl
##pB {ds:List D} {d:D} (h:ds.length<16777216):eX ds d=some (ds++[d],.non):=if_pos h
##XM {ds es:List D} (h:ds.length+es.length<=16777216):NC ds (.lst es)=some (ds++es,.non):=if_pos h
##AR {ds:List D}:KY [.tup ds]=some (ds.zipIdx.map fun p=>.tup [.int (p.2:Int),p.1]):=rfl
##NI {ds:List D}:KY [.lst ds]=some (ds.zipIdx.map fun p=>.tup [.int (p.2:Int),p.1]):=rfl
##RI {ds:List D}:aBG [.tup ds]=some ds.reverse:=rfl
##RJ {ds:List D}:aBG [.lst ds]=some ds.reverse:=rfl
##LA {t:AF} {ρ:bR} {ds:List D} (h:t ρ=some ds) (hl:ds.length<=16777216):dG t ρ=some (.tup ds):=by
 ~dG; rw [h]; !if_pos hl
##jP {n np:Nat} {b:SF} {ds:List D} {d:D} (hl:ds.length=np) (h:b (fA n ds)=.rt d):bK n np b ds=.ok d:=by
 ~bK; rw [if_pos hl,h]
##fF {f g:SF} {ρ:aP} {o:Out} (ρ':aP) (h1:f ρ=.nx ρ') (h2:g ρ' = o):aH f g ρ=o:=by
 ~aH; rw [h1]; !h2
##aDl {f g:SF} {ρ:aP} {d:D} (h1:f ρ=.rt d):aH f g ρ=.rt d:=by
 ~aH; rw [h1]
##kH {f:EF} {ρ:aP} {d:D} (h:f (bT ρ)=some d):aU f ρ=.rt d:=by
 ~aU; rw [h]
##iE {i:Nat} {f:EF} {ρ:aP} (d:D) {ρ':aP} (h:f (kD ρ)=some d) (hr:ρ.set i (.ro d)=ρ'):aN i f ρ=.nx ρ':=by
 ~aN; rw [h,<- hr]
##ifT {t:TF} {a b:SF} {ρ:aP} {o:Out} (h:t (bT ρ)=some true) (h2:a ρ=o):eV t a b ρ=o:=by
 ~eV; rw [h]; !h2
##NJ {t:TF} {a b:SF} {ρ:aP} {o:Out} (h:t (bT ρ)=some false) (h2:b ρ=o):eV t a b ρ=o:=by
 ~eV; rw [h]; !h2
##RK {it:AF} {g:K2} {b:SF} {ρ:aP} {o:Out} (ds:List D) (h:it (kD ρ)=some ds) (h2:gU g b ds ρ=o):dE it g b ρ=o:=by
 ~dE; rw [h]; !h2
##mE {nl:Nat} {fr:List Nat} {it:AF} {g:HU} {t:TF} {e:EF} {ρ:bR} (ds:List D) {ys:List D} (h:it ρ=some ds) (hl:ds.length<=16777216) (h2:kG g t e (benv nl fr ρ) ds=some ys):bJ nl fr it g t e ρ=some (.lst ys):=by
 ~bJ; rw [h]
 show (if ds.length<=uK then _ else _)=_
 rw [if_pos (show ds.length<=uK from hl),h2]; rfl
##kJ {a b:List D} (h:a.length+b.length<=16777216):bO (.lst a) (.lst b)=some (.lst (a++b)):=if_pos h
##EY {a b:List D} (h:a.length+b.length<=16777216):bO (.tup a) (.tup b)=some (.tup (a++b)):=if_pos h
##EZ {a b:List D} (h:a.length+b.length<=16777216):ES (.lst a) (.lst b)=some (.lst (a++b)):=if_pos h
##qF {i j:Int} (h:i.natAbs<18446744073709551616):mulM (.int i) (.int j)=some (.int (i*j)):=by
 simp [mulM,lC,ER,h]
##ID {i j:Int} (h:j.natAbs<18446744073709551616):mulM (.int i) (.int j)=some (.int (i*j)):=by
 simp [mulM,lC,ER,h]
##E2 {j:Int} (h:j.natAbs<4611686018427387904):HS [.int j]=some ((bG 0 j.toNat).map D.int):=if_pos h
##wQ {n:Nat} (h:n<4611686018427387904):HS [.int (n:Int)]=some ((bG 0 n).map D.int):=by
 rw [E2 °]; rfl
##eK:∀ ns:List Int,intsOf (ns.map D.int)=some ns
 | []=>rfl
 | n::ns=>by simp [intsOf,eK ns]
##pC {neg:Bool} {i:Int} {ns:List Int}:lY neg (.int i) (.tup (ns.map D.int))=some (.bl (if neg then !ns.contains i else ns.contains i)):=by simp [lY,eK]
##LB {neg:Bool} {i:Int} {ns:List Int}:lY neg (.int i) (.lst (ns.map D.int))=some (.bl (if neg then !ns.contains i else ns.contains i)):=by simp [lY,eK]
##sorted_ints {ns:List Int} (h:ns.length<64):gE [.lst (ns.map D.int)]=some (.lst ((sortI ns).map D.int)):=by simp [gE,eK,h]
##sum_ints {ns:List Int}:u7 [.lst (ns.map D.int)]=some (.int ns.sum):=by simp [u7,eK]
##AS:∀ bs:List Bool,qC (bs.map D.bl)=some bs
 | []=>rfl
 | b::bs=>by simp [qC,iP,AS bs]
##CS {bs:List Bool}:allM [.lst (bs.map D.bl)]=some (.bl (bs.all id)):=by simp [allM,AS]
##CT {n:Nat} {i:Int} (h0:0<=i) (h1:i<n):XA n i=some i.toNat:=by
 ~XA; rw [if_pos h0,if_pos h1]
##XN {n k:Nat} (h:k<n):XA n (k:Int)=some k:=by
 rw [CT ° °]; rfl
##XO {α:Type} {xs:List α} {k:Nat} (h:k<xs.length):zG xs (k:Int)=xs[k]?:=by
 ~zG; rw [XN h]; rfl
##RL {α:Type} {xs:List α} {i:Int} (h0:0<=i) (h1:i<xs.length):∃ x∈xs,zG xs i=some x/\xs[i.toNat]? = some x:=by
 have hl:i.toNat<xs.length:=by omega
 @⟨xs[i.toNat],List.getElem_mem hl,?_,by simp [hl]⟩
 ~zG; rw [CT h0 h1]; simp [hl]
##CU {α β:Type} (f:α->β) (xs:List α) (i:Int):zG (xs.map f) i=(zG xs i).map f:=by
 ~zG
 rw [List.length_map]
 cases XA xs.length i with
 | none=>rfl
 | some j=>simp
##vP {α:Type} {xs:List α} {k:Nat} {x:α} (h:xs[k]? = some x):zG xs (k:Int)=some x:=by
 rw [XO (List.getElem?_eq_some_iff.mp h).1,h]
##aQ (lo:Int) (n:Nat):(bG lo n).length=n:=by simp [bG]
##nY {lo:Int} {n i:Nat} (h:i<n):(bG lo n)[i]? = some (lo+(i:Int)):=by simp [bG,h]
##iQ (lo:Int) (n:Nat):bG lo (n+1)=bG lo n++[lo+(n:Int)]:=by simp [bG,List.range_succ]
##cB {lo:Int} {n:Nat} {x:Int}:x∈bG lo n↔lo<=x/\x<lo+n:=by
 ~bG
 rw [List.mem_map]
 simp only [List.mem_range]
 constructor
 ·rintro ⟨k,hk,rfl⟩; omega
 ·rintro ⟨h1,h2⟩; !⟨(x - lo).toNat,by omega,by omega⟩
##wR {g:K2} {b:SF} (P:Nat->aP->Prop) (ds:List D) {ρ:aP} (h0:P 0 ρ) (step:∀ (i:Nat) (d:D) (ρ:aP),ds[i]? = some d->P i ρ -> ∃ ρ1 ρ2,g d ρ=some ρ1/\b ρ1=.nx ρ2/\P (i+1) ρ2) :
  ∃ ρ',gU g b ds ρ=.nx ρ'/\P ds.length ρ':=by
 suffices H:∀ (l:List D) (k:Nat) (ρ:aP),ds.drop k=l->k<=ds.length->P k ρ -> ∃ ρ',gU g b l ρ=.nx ρ'/\P ds.length ρ' from H ds 0 ρ (by simp) (Nat.zero_le _) h0
 intro l
 induction l with
 | nil =>
  intro k ρ hl hk hp
  have:ds.length<=k:=¥hl
  !⟨ρ,rfl,by rwa [show ds.length=k by omega]⟩
 | cons d l ih =>
  intro k ρ hl hk hp
  have hk':k<ds.length:=by
   apply Classical.byContradiction
   intro h
   rw [List.drop_eq_nil_of_le °] at hl
   cases hl
  have hd:ds[k]? = some d:=by
   have:=congrArg (fun x=>x[0]?) hl
   simpa using this
  &⟨ρ1,ρ2,e1,e2,p2⟩:=step k d ρ hd hp
  have hl2:ds.drop (k+1)=l:=by
   rw [List.drop_eq_getElem_cons hk'] at hl
   !(List.cons.inj hl).2
  &⟨ρ',e3,p3⟩:=ih (k+1) ρ2 hl2 hk' p2
  !⟨ρ',by simp only [gU,e1,e2,e3],p3⟩
##RM {g:K2} {b:SF} (P:Nat->aP->Prop) (lo:Int) (n:Nat) {ρ:aP} (h0:P 0 ρ) (step:∀ (i:Nat) (ρ:aP),i<n->P i ρ -> ∃ ρ1 ρ2,g (.int (lo+(i:Int))) ρ=some ρ1/\b ρ1=.nx ρ2/\P (i+1) ρ2) :
  ∃ ρ',gU g b ((bG lo n).map D.int) ρ=.nx ρ'/\P n ρ':=by
 have:=wR (g:=g) (b:=b) P ((bG lo n).map D.int) h0 fun i d ρ hd hp=>by
  have hi:i<n:=by
   have:=(List.getElem?_eq_some_iff.mp hd).1
   simpa [aQ] using this
  rw [List.getElem?_map,nY hi] at hd
  cases hd
  !step i ρ hi hp
 simpa [aQ] using this
##NK {α:Type} {g:HU} {e:EF} {ρ:bR} (mk:α->D) (f:α->D) (l:List α) (h:∀ a∈l,(g (mk a) ρ).bind e=some (f a)):kG g cH e ρ (l.map mk)=some (l.map f):=by
 induction l with
 | nil=>rfl
 | cons a l ih =>
  have h1:=h a (by simp)
  have h2:=ih fun x hx=>h x (by simp [hx])
  cases hg:g (mk a) ρ with
  | none=>rw [hg] at h1; cases h1
  | some ρ1 =>
   rw [hg] at h1
   have h1':e ρ1=some (f a):=h1
   simp only [List.map_cons,kG,hg,Option.bind_some,cH,if_true,h1',h2,Option.map_some]
##iR {α:Type} {g:HU} {e:EF} {ρ:bR} (mk:α->D) (f:α->D) (l:List α) (h:∀ a∈l,∃ ρ1,g (mk a) ρ=some ρ1/\e ρ1=some (f a)):kG g cH e ρ (l.map mk)=some (l.map f) :=
 NK mk f l fun a ha=>by
  &⟨ρ1,h1,h2⟩:=h a ha
  rw [h1]; !h2
##jF {α:Type} {g:HU} {t:TF} {e:EF} {ρ:bR} (mk:α->D) (p:α->Bool) (f:α->D) (l:List α) (h:∀ a∈l,∃ ρ1,g (mk a) ρ=some ρ1/\t ρ1=some (p a)/\(p a=true->e ρ1=some (f a))) :
  kG g t e ρ (l.map mk)=some ((l.filter p).map f):=by
 induction l with
 | nil=>rfl
 | cons a l ih =>
  &⟨ρ1,h1,h2,h3⟩:=h a (by simp)
  have ih:=ih fun x hx=>h x (by simp [hx])
  cases hp:p a with
  | false=>simp [kG,h1,h2,hp,ih]
  | true=>simp [kG,h1,h2,hp,h3 hp,ih]
##RN {α β:Type} {g:HU} {e:EF} {ρ:bR} (mk:α->D) (out:β->D) (R:α->β->Prop) (l:List α) (h:∀ a∈l,∃ ρ1 b,g (mk a) ρ=some ρ1/\e ρ1=some (out b)/\R a b) :
  ∃ bs:List β,bs.length=l.length/\(∀ (i:Nat) (a:α) (b:β),l[i]? = some a->bs[i]? = some b->R a b)/\kG g cH e ρ (l.map mk)=some (bs.map out):=by
 induction l with
 | nil=>!⟨[],rfl,fun i a b h=>by simp at h,rfl⟩
 | cons a l ih =>
  &⟨ρ1,b,h1,h2,h3⟩:=h a (by simp)
  &⟨bs,hl,hr,hc⟩:=ih fun x hx=>h x (by simp [hx])
  @⟨b::bs,by simp [hl],fun i x y hx hy=>?_,by simp [kG,h1,h2,hc,cH]⟩
  cases i with
  | zero=>simp at hx hy; subst hx hy; !h3
  | succ i=>!hr i x y (¥hx) (¥hy)
def Rt (o:Out) (Q:D->Prop):Prop:=∃ d,o=.rt d/\Q d
def Nx (o:Out) (Q:aP->Prop):Prop:=∃ ρ,o=.nx ρ/\Q ρ
##kK {f g:SF} {ρ:aP} {Q:D->Prop} (M:aP->Prop) (h1:Nx (f ρ) M) (h2:∀ ρ',M ρ'->Rt (g ρ') Q):Rt (aH f g ρ) Q:=by
 &⟨ρ',e,m⟩:=h1; ~aH; rw [e]; !h2 ρ' m
##tN {f g:SF} {ρ:aP} {Q:aP->Prop} (M:aP->Prop) (h1:Nx (f ρ) M) (h2:∀ ρ',M ρ'->Nx (g ρ') Q):Nx (aH f g ρ) Q:=by
 &⟨ρ',e,m⟩:=h1; ~aH; rw [e]; !h2 ρ' m
##cV {f g:SF} {ρ:aP} {Q:D->Prop} (ρ':aP) (h1:f ρ=.nx ρ') (h2:Rt (g ρ') Q):Rt (aH f g ρ) Q:=by
 ~aH; rw [h1]; !h2
##fN {f g:SF} {ρ:aP} {Q:aP->Prop} (ρ':aP) (h1:f ρ=.nx ρ') (h2:Nx (g ρ') Q):Nx (aH f g ρ) Q:=by
 ~aH; rw [h1]; !h2
##jG {t:TF} {a b:SF} {ρ:aP} {Q:aP->Prop} (c:Bool) (h:t (bT ρ)=some c) (h1:c=true->Nx (a ρ) Q) (h2:c=false->Nx (b ρ) Q):Nx (eV t a b ρ) Q:=by
 ~eV; rw [h]; cases c; !h2 rfl; !h1 rfl
##qG {f:EF} {ρ:aP} {Q:D->Prop} (d:D) (h:f (bT ρ)=some d) (q:Q d):Rt (aU f ρ) Q:=⟨d,kH h,q⟩
##tO {i:Nat} {f:EF} {ρ:aP} {Q:aP->Prop} (d:D) (h:f (kD ρ)=some d) (q:Q (ρ.set i (.ro d))):Nx (aN i f ρ) Q:=⟨_,iE d h rfl,q⟩
##iS {ρ:aP} {Q:aP->Prop} (q:Q ρ):Nx (bY ρ) Q:=⟨ρ,rfl,q⟩
##CV {it:AF} {g:K2} {b:SF} {ρ:aP} {Q:aP->Prop} (ds:List D) (P:Nat->aP->Prop) (h:it (kD ρ)=some ds) (h0:P 0 ρ) (step:∀ (i:Nat) (d:D) (ρ:aP),ds[i]? = some d->P i ρ -> ∃ ρ1,g d ρ=some ρ1/\Nx (b ρ1) (P (i+1)))
  (fin:∀ ρ',P ds.length ρ'->Q ρ'):Nx (dE it g b ρ) Q:=by
 &⟨ρ',e,p⟩:=wR (g:=g) (b:=b) P ds h0 fun i d ρ hd hp=>by
  &⟨ρ1,e1,ρ2,e2,p2⟩:=step i d ρ hd hp
  !⟨ρ1,ρ2,e1,e2,p2⟩
 !⟨ρ',RK ds h e,fin ρ' p⟩
##nZ {t:AF} {g:K2} {b:SF} {ρ:aP} {Q:aP->Prop} (n:Nat) (P:Nat->aP->Prop) (h:t (kD ρ)=some [.int (n:Int)]) (hn:n<4611686018427387904) (h0:P 0 ρ) (step:∀ (i:Nat) (ρ:aP),i<n->P i ρ -> ∃ ρ1,g (.int (i:Int)) ρ=some ρ1/\Nx (b ρ1) (P (i+1)))
  (fin:∀ ρ',P n ρ'->Q ρ'):Nx (dE (aR t) g b ρ) Q:=by
 @CV ((bG 0 n).map D.int) P (by ~aR; rw [h,Option.bind_some,wQ hn]) h0 (fun i d ρ hd hp=>?_) (fun ρ' p=>fin ρ' (by simpa [aQ] using p))
 have hi:i<n:=by
  have:=(List.getElem?_eq_some_iff.mp hd).1
  simpa [aQ] using this
 rw [List.getElem?_map,nY hi] at hd
 have hd:D.int (0+(i:Int))=d:=¥hd
 subst hd
 &⟨ρ1,e,q⟩:=step i ρ hi hp
 !⟨ρ1,by rw [Int.zero_add]; !e,q⟩
##qH {n np:Nat} {b:SF} {ds:List D} {Q:D->Prop} (hl:ds.length=np) (h:Rt (b (fA n ds)) Q):∃ d,bK n np b ds=.ok d/\Q d:=by
 &⟨d,e,q⟩:=h; !⟨d,jP hl e,q⟩
##AT:∀ (l:List Int) (j:Nat),(l.map D.int).eraseIdx j=(l.eraseIdx j).map D.int
 | [],j=>by simp
 | a::l,0=>by simp
 | a::l,j+1=>by simp [AT l j]
##aM {g:D->D->Option D} {a b:EF} {ρ:bR} {z:Option D} {x y:D} (ha:a ρ=some x) (hb:b ρ=some y) (h:g x y=z):aC g a b ρ=z:=by
 ~aC; rw [ha,hb]; !h
##dJ {g:List D->Option D} {a:EF} {ρ:bR} {z:Option D} {x:D} (ha:a ρ=some x) (h:g [x]=z):bF g (aA a aE) ρ=z:=by
 ~bF aA aE; rw [ha]; !h
##mY {f:eT} {a:EF} {ρ:bR} {d x:D} (ha:a ρ=some x) (h:f [x]=.ok d):aG f (aA a aE) ρ=some d:=by
 ~aG aA aE; rw [ha]; show Q5 (f [x])=_; rw [h]; rfl
##eM {f:eT} {a b:EF} {ρ:bR} {d x y:D} (ha:a ρ=some x) (hb:b ρ=some y) (h:f [x,y]=.ok d):aG f (aA a (aA b aE)) ρ=some d:=by
 ~aG aA aE; rw [ha,hb]; show Q5 (f [x,y])=_; rw [h]; rfl
##fL {f:eT} {a b c:EF} {ρ:bR} {d x y z:D} (ha:a ρ=some x) (hb:b ρ=some y) (hc:c ρ=some z) (h:f [x,y,z]=.ok d):aG f (aA a (aA b (aA c aE))) ρ=some d:=by
 ~aG aA aE; rw [ha,hb,hc]; show Q5 (f [x,y,z])=_; rw [h]; rfl
##args1 {a:EF} {ρ:bR} {x:D} (ha:a ρ=some x):aA a aE ρ=some [x]:=by ~aA aE; rw [ha]; rfl
##args2 {a b:EF} {ρ:bR} {x y:D} (ha:a ρ=some x) (hb:b ρ=some y):aA a (aA b aE) ρ=some [x,y]:=by ~aA aE; rw [ha,hb]; rfl
##RO {a:EF} {ρ:bR} {n:Nat} (ha:a ρ=some (.int (n:Int))) (hn:n<4611686018427387904):aR (aA a aE) ρ=some ((bG 0 n).map D.int):=by
 ~aR; rw [args1 ha,Option.bind_some,wQ hn]
##aAS {a b:EF} {ρ:bR} {i j:Int} (ha:a ρ=some (.int i)) (hb:b ρ=some (.int j)) (hi:i.natAbs<4611686018427387904) (hj:j.natAbs<4611686018427387904):aR (aA a (aA b aE)) ρ=some ((bG i (j - i).toNat).map D.int):=by
 ~aR; rw [args2 ha hb,Option.bind_some]
 !if_pos ⟨hi,hj⟩
##mZ {f:EF} {ρ:bR} {d:D} {b:Bool} (h:f ρ=some d) (ht:iP d=some b):tV f ρ=some b:=by ~tV; rw [h]; !ht
##XQ {t:TF} {ρ:bR} {b c:Bool} (h:t ρ=some b) (hc:(!b)=c):hZ t ρ=some c:=by ~hZ; rw [h,<- hc]; rfl
##AU {t u:TF} {ρ:bR} {b c:Bool} (h:t ρ=some b) (h2:b=true->u ρ=some c) (h3:b=false->c=false):kX t u ρ=some c:=by
 ~kX; rw [h]; cases b
 ·rw [h3 rfl]; rfl
 ·!h2 rfl
##RP {t u:TF} {ρ:bR} {b c:Bool} (h:t ρ=some b) (h2:b=false->u ρ=some c) (h3:b=true->c=true):u4 t u ρ=some c:=by
 ~u4; rw [h]; cases b
 ·!h2 rfl
 ·rw [h3 rfl]; rfl
##XR {l:List Int} {i:Int} {y:Int} (h0:0<=i) (h1:i<l.length) (h2:l.length<=16777216) (hy:l[i.toNat]? = some y):XD (l.map D.int) (.int i)=some ((l.eraseIdx i.toNat).map D.int,.int y):=by
 show (if i.natAbs<9223372036854775808 then _ else _)=_
 rw [if_pos °,List.length_map,CT h0 h1,Option.bind_some,List.getElem?_map,hy,AT]
 rfl
##lF {ws:List Int} {j:Nat} {x:Int} (h:ws[j]? = some x):zG (ws.map D.int) (j:Int)=some (.int x):=by
 rw [CU,vP h]; rfl
##RQ {α:Type} {l:List α} {i j:Nat} {x:α} (h:l[i]? = some x) (hij:i<j):(l.take j)[i]? = some x:=by rw [List.getElem?_take_of_lt hij]; !h
##j4:∀ ns:List Int,kW (ns.map D.int)=true
 | []=>rfl
 | n::ns=>by rw [List.map_cons,kW,j4 ns]; rfl
##qI {k q:Sum Int Str} {ks:List (Sum Int Str)} {d:D} {ds:List D}:lD (q::ks) (d::ds) k=if q=k then some d else lD ks ds k:=by
 by_cases e:q=k
 ·simp [lD,e]
 ·simp [lD,e]
##tP:∀ {word:List Int} {us:List (List Int)} {i:Nat} {x:Int} {v:List Int},word.Nodup->word[i]? = some x->us[i]? = some v->lD (word.map Sum.inl) (us.map aK) (Sum.inl x)=some (aK v)
 | [],us,i,x,v,_,h,_=>by simp at h
 | w::ws,[],i,x,v,_,_,h=>by simp at h
 | w::ws,u::us,0,x,v,_,h1,h2=>by
  simp at h1 h2
  subst h1 h2
  rw [List.map_cons,List.map_cons,qI,if_pos rfl]
 | w::ws,u::us,i+1,x,v,hn,h1,h2=>by
  &⟨n1,n2⟩:=List.nodup_cons.mp hn
  have h1':ws[i]? = some x:=¥h1
  have ne:(Sum.inl w:Sum Int Str)≠Sum.inl x:=fun e=>n1 (by cases e; !List.mem_of_getElem? h1')
  rw [List.map_cons,List.map_cons,qI,if_neg ne]
  !tP n2 h1' (¥h2)
##AV:∀ {word:List Int} {us:List (List Int)} {x:Int},x∉word->lD (word.map Sum.inl) (us.map aK) (Sum.inl x)=none
 | [],us,x,_=>by simp [lD]
 | w::ws,[],x,_=>by simp [lD]
 | w::ws,u::us,x,h=>by
  have ne:(Sum.inl w:Sum Int Str)≠Sum.inl x:=fun e=>h (by cases e; !List.mem_cons_self)
  rw [List.map_cons,List.map_cons,qI,if_neg ne]
  !AV fun z=>h (List.mem_cons_of_mem _ z)
##insI_perm (a:Int):∀ l:List Int,(insI a l).Perm (a::l)
 | []=>.refl _
 | b::l=>by
  ~insI
  split
  ·!.refl _
  ·!((insI_perm a l).cons b).trans (.swap a b l)
##sortI_perm:∀ l:List Int,(sortI l).Perm l
 | []=>.refl _
 | a::l=>(insI_perm a (sortI l)).trans ((sortI_perm l).cons a)
##uM (a:Int):∀ l:List Int,l.Pairwise (· <= ·)->(insI a l).Pairwise (· <= ·)
 | [],_=>by simp [insI]
 | b::l,h=>by
  ~insI
  split
  ·rename_i hab
   @List.pairwise_cons.mpr ⟨fun c hc=>?_,h⟩
   rcases List.mem_cons.mp hc with e | e
   ·subst e; !hab
   ·!Int.le_trans hab ((List.pairwise_cons.mp h).1 c e)
  ·rename_i hab
   @List.pairwise_cons.mpr ⟨fun c hc=>?_,uM a l (List.pairwise_cons.mp h).2⟩
   rcases List.mem_cons.mp ((insI_perm a l).mem_iff.mp hc) with e | e
   ·subst e; omega
   ·!(List.pairwise_cons.mp h).1 c e
##jY:∀ l:List Int,(sortI l).Pairwise (· <= ·)
 | []=>List.Pairwise.nil
 | a::l=>uM a _ (jY l)
##AW:∀ {l m:List Int},l.Perm m->l.Pairwise (· <= ·)->m.Pairwise (· <= ·)->l=m
 | [],m,p,_,_=>by rw [p.nil_eq]
 | a::l,[],p,_,_=>by have:=p.length_eq; simp at this
 | a::l,b::m,p,h1,h2=>by
  have e:a=b:=by
   have m1:=p.mem_iff.mp (List.mem_cons_self (a:=a) (l:=l))
   have m2:=p.mem_iff.mpr (List.mem_cons_self (a:=b) (l:=m))
   rcases List.mem_cons.mp m1 with e | e
   ·!e
   ·rcases List.mem_cons.mp m2 with e2 | e2
    ·!e2.symm
    ·have:=(List.pairwise_cons.mp h2).1 a e
     have:=(List.pairwise_cons.mp h1).1 b e2
     omega
  subst e
  rw [AW p.cons_inv (List.pairwise_cons.mp h1).2 (List.pairwise_cons.mp h2).2]
##E3 {l m:List Int} (p:m.Perm l) (h:m.Pairwise (· <= ·)):sortI l=m:=AW ((sortI_perm l).trans p.symm) (jY l) h
local macro_rules | `(tactic| walk_at "ev") => `(tactic| simp only [fA, aH, eV, aU, aN, uL, iA, aDc, lZ, Q6, sX, dE, bY, aB, eC, aC, tV, hZ, kX, u4, kE, eOr, W8, eIf, mW, kF, aE, aA, bF, aG, Q5, nP, dD, aR, nV, aIK, XB, g1, g2, lE, HK, KZ, cH, benv, K0, W3, oE, asInt, aZ, kU, nQ, bT, kD, Sv.all, Sv.rd, List.map_cons, List.map_nil, List.getElem?_cons_zero, List.getElem?_cons_succ, List.getElem?_nil, Option.join_some, Option.join_none, Option.bind_some, Option.bind_none, Option.map_some, Option.map_none, List.set_cons_zero, List.set_cons_succ, List.set_nil, List.length_cons, List.length_nil, List.length_map, List.cons_append, List.nil_append, List.replicate_succ, List.replicate_zero, Nat.reduceSub, Nat.reduceAdd, Nat.reduceEqDiff, AQ, IB, IC, rR, aDb, jE, rO, K6, CP, jX, K7, fV, CQ, aBL, XH, XI, KW, K8, K9, XJ, RG, wN, RH, HZ, IA, NE, NF, NG, NH, AR, NI, RI, RJ, if_true, if_false, ite_true, ite_false, reduceIte, decide_true, decide_false, decide_eq_true_eq, Bool.false_eq_true, Bool.not_true, Bool.not_false, pC, LB])
##vQ (ns:List Int) (k:Int):∃ c,cM [.jW ns,.int k]=.ok (.int c):=by
 ~cM
 by_cases h:(ns.length:Int)=0
 ·!⟨0,jP rfl (aDl (ifT (by walk_at "ev"; rw [decide_eq_true h]) rfl))⟩
 ·&⟨x,_,e,_⟩:=RL (xs:=ns) (i:=k % (ns.length:Int)) (Int.emod_nonneg _ °) (Int.emod_lt_of_pos _ °)
  @⟨x,jP rfl (fF _ (NJ (by walk_at "ev"; rw [decide_eq_false h]) rfl) (kH ?_))⟩
  walk_at "ev"
  rw [bZ °]
  walk_at "ev"
  rw [e]; rfl
def RR (c k s:Int):Int:=(c+11*k*k+17*k+s)*48271 % 2147483647
def aDm (c k s:Int):Int:=(RR c k s*(RR c k s / 4096+5)+29*k+s) % 2147483629
##RS (c k s:Int) (h0:0<=k) (h1:k<1000000):∃ r,0<=r/\fU [.int c,.int k,.int s]=.ok (.int r):=by
 ~fU
 have ha:0<=RR c k s:=Int.emod_nonneg ((c+11*k*k+17*k+s)*48271) (b:=2147483647) §
 have hb:RR c k s<2147483647:=Int.emod_lt_of_pos ((c+11*k*k+17*k+s)*48271) (b:=2147483647) §
 @⟨aDm c k s*39373 % 1000000007,Int.emod_nonneg _ (b:=1000000007) §,jP rfl (fF _ (iE (.int (RR c k s)) ?_ rfl) (fF _ (iE (.int (aDm c k s)) ?_ rfl) (kH ?_)))⟩
 ·walk_at "ev"
  rw [qF §]
  walk_at "ev"
  rw [ID °,qF (i:=17) §]
  walk_at "ev"
  rw [ID (j:=48271) §]
  walk_at "ev"
  rw [bZ §]
  rfl
 ·walk_at "ev"
  rw [mD § §]
  walk_at "ev"
  rw [qF °,qF (i:=29) §]
  walk_at "ev"
  rw [bZ §]
  rfl
 ·walk_at "ev"
  rw [ID (j:=39373) §]
  walk_at "ev"
  rw [bZ §]
##AX (xs:List Int) (x:Int):D.lst (xs.map D.int++[.int x])=aK (xs++[x]):=by simp [aK]
##rS (c many s:Int) (h0:0<=many) (h1:many<1000000):∃ xs:List Int,xs.length=many.toNat/\(∀ x∈xs,0<=x)/\bX [.int c,.int many,.int s]=.ok (aK xs):=by
 ~bX
 have key:∀ left:Int,∃ ρ',gU (lE 5) (eV (tV (aC tL (aB 4) (eC (.int 0))))
    (aH (sX (kU 3 eX (aZ (aC dI (aB 4) (eC (.int 64))))))
    (aN 4 (aC mX (aB 4) (eC (.int 64)))))
    (sX (kU 3 eX (aZ (aG LL.fU (aA (aB 0) (aA (aB 5) (aA (aB 2) aE))))))))
    ((bG 0 many.toNat).map D.int) [Sv.ro (.int c),Sv.ro (.int many),Sv.ro (.int s),Sv.ow (.lst []),Sv.ro (.int left),Sv.no]=.nx ρ' /\
    ∃ (xs:List Int) (l:Int) (v:Sv),xs.length=many.toNat/\(∀ x∈xs,0<=x)/\ρ' = [Sv.ro (.int c),Sv.ro (.int many),Sv.ro (.int s),Sv.ow (aK xs),Sv.ro (.int l),v]:=by
  intro left
  @RM (fun i ρ'=>∃ (xs:List Int) (l:Int) (v:Sv),xs.length=i/\(∀ x∈xs,0<=x)/\ρ' = [Sv.ro (.int c),Sv.ro (.int many),Sv.ro (.int s),Sv.ow (aK xs),Sv.ro (.int l),v]) 0 _ ⟨[],left,_,rfl,by simp,rfl⟩ ?_
  rintro i _ hi ⟨xs,l,v,hx,hn,rfl⟩
  have hlen:(xs.map D.int).length<16777216:=by rw [List.length_map]; omega
  by_cases hl:0<l
  ·@⟨_,_,rfl,ifT (by walk_at "ev"; rw [decide_eq_true hl]) (fF [Sv.ro (.int c),Sv.ro (.int many),Sv.ro (.int s),Sv.ow (aK (xs++[l % 64])),Sv.ro (.int l),Sv.ro (.int (0+(i:Int)))] ?_ (iE (.int (l / 64)) ?_ rfl)),xs++[l % 64],l / 64,_,by simp [hx],?_,rfl⟩
   ·walk_at "ev"
    rw [bZ §]
    walk_at "ev"
    simp only [aK,nQ]
    walk_at "ev"
    rw [pB hlen]
    walk_at "ev"
    rw [AX]
    rfl
   ·walk_at "ev"
    rw [mD § §]
   ·intro x hx
    rcases List.mem_append.mp hx with h | h
    ·!hn x h
    ·rw [List.mem_singleton.mp h]; !Int.emod_nonneg _ §
  ·&⟨r,hr,e⟩:=RS c (0+(i:Int)) s ° °
   @⟨_,[Sv.ro (.int c),Sv.ro (.int many),Sv.ro (.int s),Sv.ow (aK (xs++[r])),Sv.ro (.int l),Sv.ro (.int (0+(i:Int)))],rfl,NJ (by walk_at "ev"; rw [decide_eq_false hl]) ?_,xs++[r],l,_,by simp [hx],?_,rfl⟩
   ·walk_at "ev"
    rw [e]
    simp only [aK,nQ]
    walk_at "ev"
    rw [pB hlen]
    walk_at "ev"
    rw [AX]
    rfl
   ·intro x hx
    rcases List.mem_append.mp hx with h | h
    ·!hn x h
    ·rw [List.mem_singleton.mp h]; !hr
 have hp:HQ (.int 10) (.int 18)=some (.int 1000000000000000000):=rfl
 have fin:∀ left:Int,(0=0) -> ∃ xs:List Int,xs.length=many.toNat/\(∀ x∈xs,0<=x)/\aH (dE (aR (aA (aB 1) aE)) (lE 5) (eV (tV (aC tL (aB 4) (eC (.int 0))))
    (aH (sX (kU 3 eX (aZ (aC dI (aB 4) (eC (.int 64))))))
    (aN 4 (aC mX (aB 4) (eC (.int 64)))))
    (sX (kU 3 eX (aZ (aG LL.fU (aA (aB 0) (aA (aB 5) (aA (aB 2) aE))))))))) (aU (aB 3)) [Sv.ro (.int c),Sv.ro (.int many),Sv.ro (.int s),Sv.ow (.lst []),Sv.ro (.int left),Sv.no]=.rt (aK xs):=by
  intro left _
  &⟨ρ',e,xs,l,v,h1',h2',rfl⟩:=key left
  @⟨xs,h1',h2',fF _ (RK _ ?_ e) (kH rfl)⟩
  walk_at "ev"
  !E2 °
 by_cases hc:1000000000000000000<=c
 ·&⟨xs,a,b,e⟩:=fin c rfl
  @⟨xs,a,b,jP rfl (fF _ rfl (fF _ rfl (fF _ (ifT ?_ rfl) e)))⟩
  walk_at "ev"
  rw [hp]
  walk_at "ev"
  rw [decide_eq_true hc]
 ·&⟨xs,a,b,e⟩:=fin 0 rfl
  @⟨xs,a,b,jP rfl (fF _ rfl (fF _ rfl (fF _ (NJ ?_ rfl) e)))⟩
  walk_at "ev"
  rw [hp]
  walk_at "ev"
  rw [decide_eq_false hc]
##wU (dr:List Int) (n:Nat) (th:Int) (hn:n<=9) (hl:n+Ord.tri n<=dr.length) :
  ∃ d,dM [aK dr,.int n,.int th]=.ok d /\ ∃ rows:List (List Int),rows.length=n/\Ord.Rows rows/\d=aJ rows:=by
 ~dM
 @qH rfl ?_
 rw [show fA 11 [aK dr,.int n,.int th]=[Sv.ro (aK dr),Sv.ro (.int n),Sv.ro (.int th),Sv.no,Sv.no,Sv.no,Sv.no,Sv.no,Sv.no,Sv.no,Sv.no] from rfl]
 @cV [Sv.ro (aK dr),Sv.ro (.int n),Sv.ro (.int th),Sv.ow (.lst ((bG 0 n).map D.int)),Sv.no,Sv.no,Sv.no,Sv.no,Sv.no,Sv.no,Sv.no] ?_ ?_
 ·walk_at "ev"
  simp only [HR]
  walk_at "ev"
  rw [if_pos °]
  rfl
 @cV [Sv.ro (aK dr),Sv.ro (.int n),Sv.ro (.int th),Sv.ow (.lst ((bG 0 n).map D.int)),Sv.ow (.lst []),Sv.no,Sv.no,Sv.no,Sv.no,Sv.no,Sv.no] rfl ?_
 @kK (fun ρ=>∃ (word:List Int) (kv v3:Sv),word.Perm (bG 0 n)/\ρ=[Sv.ro (aK dr),Sv.ro (.int n),Sv.ro (.int th),v3,Sv.ow (aK word),kv,Sv.no,Sv.no,Sv.no,Sv.no,Sv.no]) ?_ ?_
 ·@nZ n (fun i ρ=>∃ (rest word:List Int) (kv:Sv),word.length=i/\(word++rest).Perm (bG 0 n)/\ρ=[Sv.ro (aK dr),Sv.ro (.int n),Sv.ro (.int th),Sv.ow (aK rest),Sv.ow (aK word),kv,Sv.no,Sv.no,Sv.no,Sv.no,Sv.no])
   rfl ° ⟨bG 0 n,[],Sv.no,rfl,.refl _,rfl⟩ ?_ ?_
  ·rintro i _ hi ⟨rest,word,kv,hw,hp,rfl⟩
   have hlr:word.length+rest.length=n:=by
    have:=hp.length_eq
    rw [List.length_append,aQ] at this
    !this
   obtain ⟨x,hx⟩:∃ x,dr[i]? = some x:=⟨_,List.getElem?_eq_getElem °⟩
   have hr0:(0:Int)<rest.length:=by omega
   have h0:=Int.emod_nonneg x (show (rest.length:Int)≠0 by omega)
   have h1:=Int.emod_lt_of_pos x hr0
   obtain ⟨y,hy⟩:∃ y,rest[(x % (rest.length:Int)).toNat]? = some y:=⟨_,List.getElem?_eq_getElem °⟩
   @⟨_,rfl,[Sv.ro (aK dr),Sv.ro (.int n),Sv.ro (.int th),Sv.ow (aK (rest.eraseIdx (x % (rest.length:Int)).toNat)),Sv.ow (aK (word++[y])),Sv.ro (.int i),Sv.no,Sv.no,Sv.no,Sv.no,Sv.no],?_,rest.eraseIdx (x % (rest.length:Int)).toNat,word++[y],Sv.ro (.int i),by simp [hw],?_,rfl⟩
   ·have e1:=XR h0 h1 ° hy
    simp only [aK]
    walk_at "ev"
    simp only [fZ]
    walk_at "ev"
    rw [lF hx]
    walk_at "ev"
    rw [bZ hr0]
    walk_at "ev"
    simp only [D.vN,ite_true,Option.bind_some]
    walk_at "ev"
    rw [e1]
    walk_at "ev"
    rw [pB (by rw [List.length_map]; omega)]
    walk_at "ev"
    rw [List.map_append]
    rfl
   ·rw [List.append_assoc]
    !((Ord.wL rest _ y hy).append_left word).trans hp
  ·rintro _ ⟨rest,word,kv,hw,hp,rfl⟩
   have hlr:word.length+rest.length=n:=by
    have:=hp.length_eq
    rw [List.length_append,aQ] at this
    !this
   have e:rest=[]:=List.length_eq_zero_iff.mp °
   subst e
   rw [List.append_nil] at hp
   !⟨word,kv,_,hp,rfl⟩
 rintro _ ⟨word,kv,v3,hp,rfl⟩
 have hpw:word.Perm ((List.range n).map fun k:Nat=>(k:Int)):=by
  have e:bG 0 n=(List.range n).map fun k:Nat=>(k:Int):=List.map_congr_left fun k _=>by show 0+(k:Int)=k; omega
  rw [<- e]
  !hp
 have hlw:word.length=n:=by rw [hpw.length_eq,List.length_map,List.length_range]
 have ndw:word.Nodup:=hpw.nodup_iff.mpr (List.Pairwise.map _ (fun a b hab e=>hab °) List.nodup_range)
 have aBM:∀ {us:List (List Int)} (t:Nat) (u:List Int),Ord.Under word us t u->u.length<=n:=fun {us} t u h=>by
  rw [<- hlw]
  !Ord.eJ u word h.1 fun a ha=>by &⟨s,_,_,h2,_⟩:=h.2 a ha; !List.mem_of_getElem? h2
 @cV [Sv.ro (aK dr),Sv.ro (.int n),Sv.ro (.int th),v3,Sv.ow (aK word),kv,Sv.ow (.lB [] []),Sv.no,Sv.no,Sv.no,Sv.no] rfl ?_
 @cV [Sv.ro (aK dr),Sv.ro (.int n),Sv.ro (.int th),v3,Sv.ow (aK word),kv,Sv.ow (.lB [] []),Sv.ro (.int n),Sv.no,Sv.no,Sv.no] rfl ?_
 @kK (fun ρ=>∃ (us:List (List Int)) (v7 v8 v9 v10:Sv),us.length=n/\Ord.Good word us/\ρ=[Sv.ro (aK dr),Sv.ro (.int n),Sv.ro (.int th),v3,Sv.ow (aK word),kv,Sv.ow (.lB (word.map Sum.inl) (us.map aK)),v7,v8,v9,v10]) ?_ ?_
 ·@nZ n (fun j ρ=>∃ (us:List (List Int)) (v8 v9 v10:Sv),us.length=j/\Ord.Good word us/\ρ=[Sv.ro (aK dr),Sv.ro (.int n),Sv.ro (.int th),v3,Sv.ow (aK word),kv,Sv.ow (.lB ((word.take j).map Sum.inl) (us.map aK)),Sv.ro (.int ((n+Ord.tri j:Nat):Int)),v8,v9,v10])
   rfl ° ⟨[],Sv.no,Sv.no,Sv.no,rfl,(fun t u e=>by simp at e),rfl⟩ ?_ ?_
  ·rintro j _ hj ⟨us,v8,v9,v10,hul,hg,rfl⟩
   @⟨_,rfl,?_⟩
   @fN [Sv.ro (aK dr),Sv.ro (.int n),Sv.ro (.int th),v3,Sv.ow (aK word),kv,Sv.ow (.lB ((word.take j).map Sum.inl) (us.map aK)),Sv.ro (.int ((n+Ord.tri j:Nat):Int)),Sv.ro (.int j),Sv.ro (.lst []),v10] rfl ?_
   @tN (fun ρ=>∃ (u:List Int) (v10:Sv),Ord.Under word us j u/\ρ=[Sv.ro (aK dr),Sv.ro (.int n),Sv.ro (.int th),v3,Sv.ow (aK word),kv,Sv.ow (.lB ((word.take j).map Sum.inl) (us.map aK)),Sv.ro (.int ((n+Ord.tri (j+1):Nat):Int)),Sv.ro (.int j),Sv.ro (aK u),v10]) ?_ ?_
   ·@nZ j (fun i ρ=>∃ (u:List Int) (v10:Sv),Ord.Under word us i u/\ρ=[Sv.ro (aK dr),Sv.ro (.int n),Sv.ro (.int th),v3,Sv.ow (aK word),kv,Sv.ow (.lB ((word.take j).map Sum.inl) (us.map aK)),Sv.ro (.int ((n+Ord.tri j+i:Nat):Int)),Sv.ro (.int j),Sv.ro (aK u),v10])
     rfl ° ⟨[],_,⟨List.nodup_nil,fun a ha=>(nomatch ha)⟩,rfl⟩ ?_ ?_
    ·rintro i _ hi ⟨u,v10,hU,rfl⟩
     have tl:=Ord.aBK hj hi
     obtain ⟨y,hy⟩:∃ y,dr[n+Ord.tri j+i]? = some y:=⟨_,List.getElem?_eq_getElem °⟩
     obtain ⟨x,hx⟩:∃ x,word[i]? = some x:=⟨_,List.getElem?_eq_getElem °⟩
     obtain ⟨v,hv⟩:∃ v,us[i]? = some v:=⟨_,List.getElem?_eq_getElem °⟩
     have lv:=aBM _ _ (hg i v hv)
     have lu:=aBM _ _ hU
     @⟨_,rfl,?_⟩
     @tN (fun ρ=>∃ u':List Int,Ord.Under word us (i+1) u'/\ρ=[Sv.ro (aK dr),Sv.ro (.int n),Sv.ro (.int th),v3,Sv.ow (aK word),kv,Sv.ow (.lB ((word.take j).map Sum.inl) (us.map aK)),Sv.ro (.int ((n+Ord.tri j+i:Nat):Int)),Sv.ro (.int j),Sv.ro (aK u'),Sv.ro (.int i)]) ?_ ?_
     ·@jG (decide (y % 4<th)) ?_ (fun _=>?_) (fun _=>iS ⟨u,hU.mono °,rfl⟩)
      ·simp only [aK]
       walk_at "ev"
       rw [lF hy]
       walk_at "ev"
       rw [bZ §]
       walk_at "ev"
      ·@⟨_,?_,_,hU.step ndw hg hx hv,rfl⟩
       have hf:=List.length_filter_le (fun a=>!u.contains a) (v++[x])
       have e1:kG (g1 0) (tV (aC (lY true) (aB 0) (aB 1))) (aB 0) [none,some (.lst (u.map D.int))] ((v++[x]).map D.int)=some (((v++[x]).filter fun a=>!u.contains a).map D.int) :=
        jF D.int _ D.int (v++[x]) fun a _=>⟨_,rfl,by walk_at "ev",fun _=>rfl⟩
       have e2:aC bO (aC wB (aB 6) (aC aY (aB 4) (aB 10))) (dL (aA (aC aY (aB 4) (aB 10)) aE)) [some (aK dr),some (.int n),some (.int th),v3.all,some (aK word),kv.all,some (.lB ((word.take j).map Sum.inl) (us.map aK)),some (.int ((n+Ord.tri j+i:Nat):Int)),some (.int j),some (aK u),some (.int i)]=some (.lst ((v++[x]).map D.int)):=by
        simp only [aK]
        walk_at "ev"
        rw [lF hx]
        walk_at "ev"
        simp only [wB,v0,Option.bind_some]
        have:=tP (List.Nodup.sublist (List.take_sublist j word) ndw) (RQ hx hi) hv
        simp only [aK] at this
        rw [this]
        simp only [dL]
        walk_at "ev"
        rw [lF hx]
        walk_at "ev"
        rw [if_pos §,Option.bind_some,kJ (by simp; omega)]
        simp
       have e3:bJ 1 [9] (dD (aC bO (aC wB (aB 6) (aC aY (aB 4) (aB 10))) (dL (aA (aC aY (aB 4) (aB 10)) aE)))) (g1 0) (tV (aC (lY true) (aB 0) (aB 1))) (aB 0) [some (aK dr),some (.int n),some (.int th),v3.all,some (aK word),kv.all,some (.lB ((word.take j).map Sum.inl) (us.map aK)),some (.int ((n+Ord.tri j+i:Nat):Int)),some (.int j),some (aK u),some (.int i)]=some (.lst (((v++[x]).filter fun a=>!u.contains a).map D.int)) :=
        mE ((v++[x]).map D.int) (by ~dD; rw [e2]; rfl) (by simp; omega) e1
       ~lZ
       have e4:aC ES (aB 9) (bJ 1 [9] (dD (aC bO (aC wB (aB 6) (aC aY (aB 4) (aB 10))) (dL (aA (aC aY (aB 4) (aB 10)) aE)))) (g1 0) (tV (aC (lY true) (aB 0) (aB 1))) (aB 0)) [some (aK dr),some (.int n),some (.int th),v3.all,some (aK word),kv.all,some (.lB ((word.take j).map Sum.inl) (us.map aK)),some (.int ((n+Ord.tri j+i:Nat):Int)),some (.int j),some (aK u),some (.int i)]=some (aK (u++(v++[x]).filter fun a=>!u.contains a)):=by
        @aM (x:=aK u) rfl e3 ?_
        show ES (.lst (u.map D.int)) _=_
        rw [EZ (by simp only [List.length_map,List.length_append,List.length_cons,List.length_nil] at hf ⊢; omega),<- List.map_append]
        rfl
       rw [show bT _=[some (aK dr),some (.int n),some (.int th),v3.all,some (aK word),kv.all,some (.lB ((word.take j).map Sum.inl) (us.map aK)),some (.int ((n+Ord.tri j+i:Nat):Int)),some (.int j),some (aK u),some (.int i)] from rfl,e4]
       show (if qD (aK _)=true then _ else _)=_
       rw [if_pos (show qD (aK _)=true from j4 _)]
       rfl
     rintro _ ⟨u',hU',rfl⟩
     !⟨_,rfl,u',_,hU',rfl⟩
    ·rintro _ ⟨u,v10,hU,rfl⟩
     !⟨u,v10,hU,by rw [Nat.add_assoc]; rfl⟩
   rintro _ ⟨u,v10,hU,rfl⟩
   obtain ⟨x,hx⟩:∃ x,word[j]? = some x:=⟨_,List.getElem?_eq_getElem °⟩
   @⟨[Sv.ro (aK dr),Sv.ro (.int n),Sv.ro (.int th),v3,Sv.ow (aK word),kv,Sv.ow (.lB ((word.take (j+1)).map Sum.inl) ((us++[u]).map aK)),Sv.ro (.int ((n+Ord.tri (j+1):Nat):Int)),Sv.ro (.int j),Sv.ro (aK u),v10],?_,us++[u],Sv.ro (.int j),Sv.ro (aK u),v10,by simp [hul],hg.snoc (by rw [hul]; !hU),rfl⟩
   have hno:lD ((word.take j).map Sum.inl) (us.map aK) (Sum.inl x)=none:=AV fun hm=>by
    &⟨t,ht⟩:=List.mem_iff_getElem?.mp hm
    have htl:t<j:=by
     have:=(List.getElem?_eq_some_iff.mp ht).1
     rw [List.length_take] at this
     omega
    rw [List.getElem?_take_of_lt htl] at ht
    have:=Ord.wM ndw ht hx
    omega
   ~K1
   walk_at "ev"
   simp only [wF,Option.bind_some]
   have e5:aY (aK word) (.int (j:Int))=some (.int x):=lF hx
   rw [e5]
   simp only [Option.bind_some,v0,hno,Option.isNone_none,true_and]
   rw [if_pos (by rw [List.length_map]; show us.length<16777216; omega),List.take_succ,hx,List.map_append,List.map_append]
   rfl
  ·rintro _ ⟨us,v8,v9,v10,hul,hg,rfl⟩
   @⟨us,Sv.ro (.int ((n+Ord.tri n:Nat):Int)),v8,v9,v10,hul,hg,?_⟩
   rw [List.take_of_length_le °]
 rintro _ ⟨us,v7,v8,v9,v10,hul,hg,rfl⟩
 have ec:∃ rows:List (List Int),rows.length=(List.range n).length/\(∀ (i:Nat) (b:Nat) (r:List Int),(List.range n)[i]? = some b->rows[i]? = some r -> ∀ (t:Nat) (u:List Int),word[t]? = some (b:Int)->us[t]? = some u->r.Perm u/\r.Pairwise (· <= ·)) /\
   kG (g1 0) cH (bF bW (aA (bF gE (aA (aC wB (aB 1) (aB 0)) aE)) aE)) [none,some (.lB (word.map Sum.inl) (us.map aK))] ((List.range n).map fun b:Nat=>D.int (b:Int))=some (rows.map tupI):=by
  @RN (fun b:Nat=>D.int (b:Int)) tupI _ (List.range n) fun b hb=>?_
  have hb2:=List.mem_range.mp hb
  have hm:(b:Int)∈word:=hpw.mem_iff.mpr (List.mem_map.mpr ⟨b,hb,rfl⟩)
  &⟨t,ht⟩:=List.mem_iff_getElem?.mp hm
  obtain ⟨u,hu2⟩:∃ u,us[t]? = some u:=⟨_,List.getElem?_eq_getElem (by have:=(List.getElem?_eq_some_iff.mp ht).1; omega)⟩
  have lu:=aBM _ _ (hg t u hu2)
  @⟨_,sortI u,rfl,?_,fun t' u' e1 e2=>?_⟩
  ·walk_at "ev"
   simp only [wB,v0,Option.bind_some]
   rw [tP ndw ht hu2]
   simp only [aK]
   walk_at "ev"
   rw [sorted_ints °]
   rfl
  ·have e:=Ord.wM ndw e1 ht
   subst e
   rw [hu2] at e2
   cases e2
   !⟨sortI_perm u,jY u⟩
 &⟨rows,hr1,hr2,ec⟩:=ec
 rw [List.length_range] at hr1
 @qG (aJ rows) ?_ ⟨rows,hr1,hg.rows hul hpw hr1 fun b t r u e1 e2 e3=>hr2 b b r (by rw [List.getElem?_range (by have:=(List.getElem?_eq_some_iff.mp e1).1; omega)]) e1 t u e2 e3,rfl⟩
 have e6:(bG 0 n).map D.int=(List.range n).map fun b:Nat=>D.int (b:Int):=by
  ~bG
  rw [List.map_map]
  !List.map_congr_left fun b _=>by show D.int (0+(b:Int))=_; rw [Int.zero_add]
 have e7:=mE (nl:=1) (fr:=[6]) (it:=aR (aA (aB 1) aE)) (g:=g1 0) (t:=cH) (e:=bF bW (aA (bF gE (aA (aC wB (aB 1) (aB 0)) aE)) aE)) (ρ:=bT [Sv.ro (aK dr),Sv.ro (.int n),Sv.ro (.int th),v3,Sv.ow (aK word),kv,Sv.ow (.lB (word.map Sum.inl) (us.map aK)),v7,v8,v9,v10]) ((bG 0 n).map D.int)
  (by walk_at "ev"; !wQ °) (by rw [List.length_map,aQ]; omega) (by rw [e6]; !ec)
 !dJ e7 rfl
##LC (n:Nat):2*Ord.tri n+n=n*n:=by
 induction n with
 | zero=>rfl
 | succ n ih =>
  show 2*(Ord.tri n+n)+(n+1)=(n+1)*(n+1)
  have:(n+1)*(n+1)=n*n+2*n+1:=by rw [Nat.add_mul,Nat.mul_add]; omega
  omega
def dA:eT:=bK 2 2
  (aU (kF W9 W2 (eC (.int 0)) (aB 0) (aB 1)))
def gW:eT:=bK 4 2
  (aH (dE (nV (aA (aB 0) aE)) (HK 2 3)
   (aH (eV (hZ (tV (aG LL.dA (aA (aB 3) (aA (aB 1) aE)))))
    (aU (eC (.bl false)))
    bY)
   (eV (kX (tV (aC tL (aB 2) (eC (.int 0)))) (tV (aC geM (aC aY (aB 0) (aC fE (aB 2) (eC (.int 1)))) (aB 3))))
    (aU (eC (.bl false)))
    bY)))
  (aU (eC (.bl true))))
def cK:eT:=bK 3 3
  (aU (kE (aC KU (aB 1) (aB 2)) (kE (aC (lY true) (aB 1) (aC aY (aB 0) (aB 2))) (aC (lY true) (aB 2) (aC aY (aB 0) (aB 1))))))
def fH:eT:=bK 3 1
  (aH (iA 1 (dL aE))
  (aH (dE (aR (aA (bF aV (aA (aB 0) aE)) aE)) (lE 2)
   (sX (kU 1 NC (aZ (bJ 1 [2,0] (aR (aA (aC bO (aB 2) (eC (.int 1))) (aA (bF aV (aA (aB 0) aE)) aE))) (g1 0) (tV (aG LL.cK (aA (aB 2) (aA (aB 1) (aA (aB 0) aE))))) (dG (aA (aB 1) (aA (aB 0) aE))))))))
  (aU (bF bW (aA (aB 1) aE)))))
def wV:eT:=bK 2 2
  (aU (bF bW (aA (bJ 2 [1] (nV (aA (aB 0) aE)) (g2 0 1) (tV (aC (lY false) (aB 2) (aB 1))) (aB 0)) aE)))
def lN:eT:=bK 1 1
  (aU (bF bW (aA (bJ 1 [0] (aR (aA (bF aV (aA (aB 0) aE)) aE)) (g1 0) cH (aG LL.wV (aA (aB 1) (aA (aB 0) aE)))) aE)))
def jZ:eT:=bK 7 3
  (aH (aN 3 (aC bO (bF rM (aA (aC aY (aB 0) (aB 1)) aE)) (dL (aA (aB 1) aE))))
  (aH (iA 4 (dL aE))
  (aH (dE (aR (aA (bF aV (aA (aB 0) aE)) aE)) (lE 5)
   (aH (aN 6 (bF rM (aA (aC aY (aB 0) (aB 5)) aE)))
   (aH (eV (u4 (tV (aC kT (aB 5) (aB 2))) (tV (aC (lY false) (aB 2) (aC aY (aB 0) (aB 5)))))
    (aN 6 (aC bO (aB 6) (bJ 1 [6] (dD (aB 3)) (g1 0) (tV (aC (lY true) (aB 0) (aB 1))) (aB 0))))
    bY)
   (sX (kU 4 eX (aZ (bF bW (aA (bF gE (aA (aB 6) aE)) aE))))))))
  (aU (bF bW (aA (aB 4) aE))))))
##isi {T:String} {f:EF} {ρ:bR} {d:D} (h:f ρ=some d) (hn:aBF d=true:=by rfl):nP T f ρ=some (.bl (aBE T d)):=by ~nP; rw [h]; !if_pos hn
##AZ {α:Type} {g:K2} {b:SF} {z:D} (P:aP->Prop) (mk:α->D) (ok:α->Bool):∀ (l:List α) (ρ:aP),P ρ->(∀ a∈l,∀ ρ,P ρ -> ∃ ρ1,g (mk a) ρ=some ρ1/\(ok a=true->Nx (b ρ1) P)/\(ok a=false->b ρ1=.rt z)) ->
  (l.all ok=true->Nx (gU g b (l.map mk) ρ) P)/\(l.all ok=false->gU g b (l.map mk) ρ=.rt z)
 | [],ρ,h,_=>⟨fun _=>⟨ρ,rfl,h⟩,fun e=>by cases e⟩
 | a::l,ρ,h,step=>by
  &⟨ρ1,e1,h1,h2⟩:=step a (by simp) ρ h
  cases hd:ok a with
  | true =>
   &⟨ρ2,e2,p2⟩:=h1 hd
   have ih:=AZ P mk ok l ρ2 p2 fun d' hd'=>step d' (by simp [hd'])
   simp only [List.map_cons,gU,e1,e2,List.all_cons,hd,Bool.true_and]
   !ih
  | false =>
   have e2:=h2 hd
   simp only [List.map_cons,gU,e1,e2,List.all_cons,hd,Bool.false_and]
   !⟨fun e=>(by cases e),fun _=>trivial⟩
def row (rows:List (List Int)) (b:Int):List Int:=(rows[b.toNat]?).getD []
##kL {rows:List (List Int)} {i:Int} (h0:0<=i) (h1:i<rows.length):aY (aJ rows) (.int i)=some (tupI (row rows i)):=by
 have hl:i.toNat<rows.length:=by omega
 rw [show aJ rows=.tup (rows.map tupI) from rfl,K9,CU]
 ~zG row
 rw [CT h0 h1]
 simp [hl]
##IE {i:Int} {xs:List Int}:lY false (.int i) (tupI xs)=some (.bl (xs.contains i)):=by
 ~tupI; rw [pC]; rfl
##CW {i:Int} {xs:List Int}:lY true (.int i) (tupI xs)=some (.bl (!xs.contains i)):=by
 ~tupI; rw [pC]; rfl
##dZ {rows:List (List Int)}:aV [aJ rows]=some (.int rows.length):=by ~aJ; rw [wN,List.length_map]
##E4 {xs:List Int}:aV [tupI xs]=some (.int xs.length):=by ~tupI; rw [wN,List.length_map]
##zipIdx_map {α β:Type} (f:α->β) (l:List α) (m:Nat):(l.map f).zipIdx m=(l.zipIdx m).map fun p=>(f p.1,p.2):=by
 induction l generalizing m with
 | nil=>rfl
 | cons a l ih=>simp [List.zipIdx_cons,ih]
##jH (a n:Int):dA [.int a,.int n]=.ok (.bl (decide (0<=a)&&decide (a<n))):=by
 ~dA
 @jP rfl (kH ?_)
 show kF W9 W2 (eC (.int 0)) (aB 0) (aB 1) [some (.int a),some (.int n)]=_
 ~kF
 simp only [eC,aB,List.getElem?_cons_zero,List.getElem?_cons_succ,Option.join_some,Option.bind_some,CP,K6,rR]
 by_cases h:0<=a
 ·simp [h]
 ·simp [h]
##CY {xs:List Int} {n:Int} (hl:xs.length<=1000000) (hu:xs.Pairwise (·<·)) (hr:∀ x∈xs,0<=x/\x<n):gW [tupI xs,.int n]=.ok (.bl true):=by
 ~gW
 have key:=wR (g:=HK 2 3) (b:=aH (eV (hZ (tV (aG LL.dA (aA (aB 3) (aA (aB 1) aE)))))
    (aU (eC (.bl false)))
    bY)
   (eV (kX (tV (aC tL (aB 2) (eC (.int 0)))) (tV (aC geM (aC aY (aB 0) (aC fE (aB 2) (eC (.int 1)))) (aB 3))))
    (aU (eC (.bl false)))
    bY)) (fun _ ρ=>∃ v2 v3,ρ=[Sv.ro (tupI xs),Sv.ro (.int n),v2,v3]) ((xs.map D.int).zipIdx.map fun p=>.tup [.int (p.2:Int),p.1])
   (ρ:=[Sv.ro (tupI xs),Sv.ro (.int n),Sv.no,Sv.no]) ⟨_,_,rfl⟩ fun i d ρ hd hp=>by
  &⟨v2,v3,rfl⟩:=hp
  rw [zipIdx_map,List.map_map,List.getElem?_map] at hd
  obtain ⟨⟨x,j⟩,hz,rfl⟩:∃ p,xs.zipIdx[i]? = some p/\((fun p=>D.tup [.int (p.2:Int),p.1])∘fun p:Int×Nat=>(D.int p.1,p.2)) p=d:=by
   cases q:xs.zipIdx[i]? with
   | none=>rw [q] at hd; cases hd
   | some p=>rw [q] at hd; !⟨p,rfl,Option.some.inj hd⟩
  rw [List.getElem?_zipIdx] at hz
  obtain ⟨hx,ej⟩:xs[i]? = some x/\j=i:=by
   cases q:xs[i]? with
   | none=>rw [q] at hz; cases hz
   | some y=>rw [q] at hz; simp at hz; !⟨by rw [hz.1],hz.2.symm⟩
  subst ej
  have hm:=hr x (List.mem_of_getElem? hx)
  @⟨[Sv.ro (tupI xs),Sv.ro (.int n),Sv.ro (.int j),Sv.ro (.int x)],[Sv.ro (tupI xs),Sv.ro (.int n),Sv.ro (.int j),Sv.ro (.int x)],rfl,fF _ (NJ ?_ rfl) (NJ ?_ rfl),_,_,rfl⟩
  ·show Option.map _ ((aG _ _ _).bind iP)=_
   rw [eM rfl rfl (jH x n)]
   simp [iP,hm]
  ·show ((aC tL _ _ _).bind iP).bind _=_
   rw [aM (x:=.int j) (y:=.int 0) rfl rfl jX]
   by_cases h0:(0:Int)<(j:Int)
   ·obtain ⟨y,hy⟩:∃ y,xs[j - 1]? = some y:=⟨_,List.getElem?_eq_getElem (by have:=(List.getElem?_eq_some_iff.mp hx).1; omega)⟩
    have hxy:y<x:=by
     &⟨q1,rfl⟩:=List.getElem?_eq_some_iff.mp hx
     &⟨q2,rfl⟩:=List.getElem?_eq_some_iff.mp hy
     !List.pairwise_iff_getElem.mp hu (j - 1) j q2 q1 °
    have e2:aC aY (aB 0) (aC fE (aB 2) (eC (.int 1))) (bT [Sv.ro (tupI xs),Sv.ro (.int n),Sv.ro (.int j),Sv.ro (.int x)])=some (.int y):=by
     @aM rfl (aM rfl rfl rO) ?_
     rw [show (j:Int) - 1=((j - 1:Nat):Int) by omega]
     !lF hy
    simp only [h0,decide_true,AQ,Option.bind_some,if_true]
    show (aC geM _ _ _).bind iP=_
    rw [aM e2 rfl K7]
    simp [iP]; omega
   ·rw [decide_eq_false h0]; rfl
 &⟨ρ',e,v2,v3,rfl⟩:=key
 !jP rfl (fF _ (RK _ rfl e) (kH rfl))
def fM (rows:List (List Int)) (a b:Int):Bool:=!decide (a=b)&&(!(row rows b).contains a && !(row rows a).contains b)
##m9 {rows:List (List Int)} {a b:Int} (ha:0<=a/\a<(rows.length:Int)) (hb:0<=b/\b<(rows.length:Int)):cK [aJ rows,.int a,.int b]=.ok (.bl (fM rows a b)):=by
 ~cK
 @jP rfl (kH ?_)
 show kE (aC KU (aB 1) (aB 2)) _ _=_
 ~kE
 rw [aM (x:=.int a) (y:=.int b) rfl rfl CQ,aM (x:=.int a) (y:=tupI (row rows b)) rfl (aM rfl rfl (kL hb.1 hb.2)) CW,aM (x:=.int b) (y:=tupI (row rows a)) rfl (aM rfl rfl (kL ha.1 ha.2)) CW]
 simp only [Option.bind_some,rR,fM]
 cases decide (a=b)<;>cases (row rows b).contains a<;>rfl
def pairD (p:Int×Int):D:=.tup [.int p.1,.int p.2]
def cZ (rows:List (List Int)) (a:Int):List (Int×Int):=((bG (a+1) (rows.length - (a+1)).toNat).filter fun b=>fM rows a b).map fun b=>(a,b)
def loose (rows:List (List Int)):List (Int×Int):=(bG 0 rows.length).flatMap (cZ rows)
##n4 (rows:List (List Int)) {a:Int} (ha:0<=a):(cZ rows a).length<=rows.length:=by
 ~cZ
 rw [List.length_map]
 @Nat.le_trans (List.length_filter_le _ _) ?_
 rw [aQ]; omega
##wW {rows:List (List Int)} (hn:rows.length<=1000):fH [aJ rows]=.ok (.tup ((loose rows).map pairD)):=by
 ~fH
 have hlen:∀ k,k<=rows.length->((bG 0 k).flatMap (cZ rows)).length<=k*rows.length:=by
  intro k
  induction k with
  | zero=>intro _; simp [bG]
  | succ k ih =>
   intro hk
   rw [iQ,List.flatMap_append,List.length_append]
   have:=ih °
   have h2:=n4 rows (a:=0+(k:Int)) °
   simp only [List.flatMap_cons,List.flatMap_nil,List.append_nil]
   rw [Nat.add_mul]
   omega
 obtain ⟨ρ',e,v2,rfl⟩:Nx (dE (aR (aA (bF aV (aA (aB 0) aE)) aE)) (lE 2)
   (sX (kU 1 NC (aZ (bJ 1 [2,0] (aR (aA (aC bO (aB 2) (eC (.int 1))) (aA (bF aV (aA (aB 0) aE)) aE))) (g1 0) (tV (aG LL.cK (aA (aB 2) (aA (aB 1) (aA (aB 0) aE))))) (dG (aA (aB 1) (aA (aB 0) aE)))))))
   [Sv.ro (aJ rows),Sv.ow (.lst []),Sv.no]) (fun ρ=>∃ v2,ρ=[Sv.ro (aJ rows),Sv.ow (.lst ((loose rows).map pairD)),v2]):=by
  @nZ rows.length (fun i ρ=>∃ v2,ρ=[Sv.ro (aJ rows),Sv.ow (.lst (((bG 0 i).flatMap (cZ rows)).map pairD)),v2]) ?_ ° ⟨_,rfl⟩ ?_ ?_
  ·!args1 (dJ rfl dZ)
  ·rintro i _ hi ⟨v2,rfl⟩
   @⟨_,rfl,[Sv.ro (aJ rows),Sv.ow (.lst (((bG 0 (i+1)).flatMap (cZ rows)).map pairD)),Sv.ro (.int i)],?_,_,rfl⟩
   have ec:=mE (nl:=1) (fr:=[2,0]) (it:=aR (aA (aC bO (aB 2) (eC (.int 1))) (aA (bF aV (aA (aB 0) aE)) aE))) (g:=g1 0) (t:=tV (aG LL.cK (aA (aB 2) (aA (aB 1) (aA (aB 0) aE))))) (e:=dG (aA (aB 1) (aA (aB 0) aE)))
    (ρ:=[some (aJ rows),none,some (.int (i:Int))]) ((bG ((i:Int)+1) (rows.length - ((i:Int)+1)).toNat).map D.int) (ys:=(cZ rows (i:Int)).map pairD)
    (aAS (aM (x:=.int i) (y:=.int 1) rfl rfl jE) (dJ rfl dZ) ° °)
    (by rw [List.length_map,aQ]; omega)
    (by
     ~cZ
     rw [List.map_map]
     @jF D.int (fun b=>fM rows (i:Int) b) _ _ fun b hb=>⟨_,rfl,?_,fun _=>rfl⟩
     have hb:=cB.mp hb
     show (aG _ _ _).bind iP=_
     rw [fL (x:=aJ rows) (y:=.int i) (z:=.int b) rfl rfl rfl (m9 ⟨by omega,by omega⟩ ⟨by omega,by omega⟩)]
     rfl)
   have ex:aZ (bJ 1 [2,0] (aR (aA (aC bO (aB 2) (eC (.int 1))) (aA (bF aV (aA (aB 0) aE)) aE))) (g1 0) (tV (aG LL.cK (aA (aB 2) (aA (aB 1) (aA (aB 0) aE))))) (dG (aA (aB 1) (aA (aB 0) aE)))) [Sv.ro (aJ rows),Sv.ow (.lst (((bG 0 i).flatMap (cZ rows)).map pairD)),Sv.ro (.int i)]=some ([Sv.ro (aJ rows),Sv.ow (.lst (((bG 0 i).flatMap (cZ rows)).map pairD)),Sv.ro (.int i)],.lst ((cZ rows (i:Int)).map pairD)):=by
    ~aZ
    rw [show kD _=[some (aJ rows),none,some (.int (i:Int))] from rfl,ec]
    rfl
   ~sX kU
   show (match ((nQ (some (Sv.ow (.lst _)))).bind _:Option (aP×D)) with | some p=>_ | none=>_)=_
   simp only [nQ,Option.bind_some]
   rw [show [Sv.ro (aJ rows),Sv.ow (.lst (((bG 0 i).flatMap (cZ rows)).map pairD)),v2].set 2 (Sv.ro (.int (i:Int)))=[Sv.ro (aJ rows),Sv.ow (.lst (((bG 0 i).flatMap (cZ rows)).map pairD)),Sv.ro (.int i)] from rfl,ex]
   simp only [Option.bind_some,List.getElem?_cons_succ,List.getElem?_cons_zero,nQ]
   rw [XM (by
    have h1:=hlen i °
    have h2:=n4 rows (a:=(i:Int)) °
    have h3:i*rows.length<=1000*1000:=Nat.mul_le_mul ° hn
    rw [List.length_map,List.length_map]; omega)]
   simp only [Option.map_some,List.set_cons_succ,List.set_cons_zero]
   rw [iQ,List.flatMap_append,List.map_append]
   simp
  ·rintro _ ⟨v2,rfl⟩
   !⟨v2,rfl⟩
 !jP rfl (fF _ rfl (fF _ e (kH rfl)))
end LL
end
section
namespace Ord
def rel (rows:List (List Int)) (a b:Nat):Bool:=(rows.getD b []).contains (a:Int)
end Ord
end
section
namespace Ord
##LD {x:List (List Int)} {a b:Nat} {r:List Int} (h:x[b]? = some r):rel x a b=true↔(a:Int)∈r:=by
 ~rel
 rw [List.getD_eq_getElem?_getD,h]
 simp
##RT {y:List (List Int)} (h:Rows y) {b:Nat} {v:List Int} (hv:y[b]? = some v) {z:Int}:z∈v ↔ ∃ a:Nat,z=(a:Int)/\a<y.length/\rel y a b=true:=by
 constructor
 ·intro hz
  &⟨q1,q2⟩:=h.rng _ _ hv _ hz
  @⟨z.toNat,by omega,by omega,?_⟩
  rw [LD hv,show ((z.toNat:Nat):Int)=z by omega]
  !hz
 ·rintro ⟨a,rfl,h1,h2⟩
  rwa [LD hv] at h2
##Rows.short {x:List (List Int)} (h:Rows x) {r:List Int} (hr:r∈x):r.length<=x.length:=by
 &⟨b,hb⟩:=List.mem_iff_getElem?.mp hr
 have nd:r.Nodup:=(h.up b r hb).imp fun q=>by omega
 have:=eJ r (L4.bG 0 x.length) nd fun a ha=>LL.cB.mpr (by have:=h.rng b r hb a ha; omega)
 rwa [LL.aQ] at this
end Ord
end
section
namespace XS
open PySem L3 L4
def nR:eT:=bK 2 2
  (aU (bF bW (aA (bJ 1 [1] (XB (aA (aB 0) aE)) (g1 0) cH (aC fE (aC fE (aB 1) (eC (.int 1))) (aB 0))) aE)))
def kM:eT:=bK 1 1
  (aU (bF bW (aA (bJ 1 [0] (XB (aA (aB 0) aE)) (g1 0) cH (aG nR (aA (aB 0) (aA (bF aV (aA (aB 1) aE)) aE)))) aE)))
def rT:eT:=bK 3 1
  (aH (aN 1 (dL aE))
  (aH (dE (aR (aA (bF aV (aA (aB 0) aE)) aE)) (lE 2)
   (aN 1 (aC bO (aB 1) (bJ 1 [2] (dD (aC aY (aB 0) (aB 2))) (g1 0) cH (dG (aA (aB 0) (aA (aB 1) aE)))))))
  (aU (bF CK (aA (aB 1) aE)))))
def wZ:eT:=bK 2 2
  (aU (bF bW (aA (bJ 1 [1] (aR (aA (aB 0) aE)) (g1 0) cH (bF bW (aA (bF gE (aA (bJ 2 [0] (dD (aB 1)) (g2 0 1) (tV (aC kT (aB 1) (aB 2))) (aB 0)) aE)) aE))) aE)))
def rV:eT:=bK 7 1
  (aH (aN 1 (aG LL.pA (aA (aB 0) (aA (eC (.int 0)) (aA (eC (.int 9)) (aA (eC (.int 100003)) aE))))))
  (aH (aN 2 (bF aV (aA (aB 1) aE)))
  (aH (aN 3 (aG rT (aA (aB 1) aE)))
  (aH (aN 4 (aG wZ (aA (aB 2) (aA (bJ 2 [2] (dD (aB 3)) (g2 0 1) cH (dG (aA (aC fE (aC fE (aB 2) (eC (.int 1))) (aB 0)) (aA (aC fE (aC fE (aB 2) (eC (.int 1))) (aB 1)) aE)))) aE))))
  (aH (aN 5 (aG wZ (aA (aB 2) (aA (bJ 2 [] (dD (aB 3)) (g2 0 1) cH (dG (aA (aB 1) (aA (aB 0) aE)))) aE))))
  (aH (aN 6 (aG wZ (aA (aB 2) (aA (bJ 2 [2] (dD (aB 3)) (g2 0 1) cH (dG (aA (aC fE (aC fE (aB 2) (eC (.int 1))) (aB 1)) (aA (aC fE (aC fE (aB 2) (eC (.int 1))) (aB 0)) aE)))) aE))))
  (aH (eV (u4 (hZ (tV (aG (LL.iD 6) (aA (aG kM (aA (aB 1) aE)) (aA (aB 4) aE))))) (hZ (tV (aG (LL.iD 6) (aA (aG LL.lN (aA (aB 1) aE)) (aA (aB 5) aE))))))
   (aU (eC (.bl false)))
   bY)
  (aH (eV (u4 (hZ (tV (aG (LL.iD 6) (aA (aG kM (aA (aB 4) aE)) (aA (aB 1) aE))))) (hZ (tV (aG (LL.iD 6) (aA (aG LL.lN (aA (aB 5) aE)) (aA (aB 1) aE))))))
   (aU (eC (.bl false)))
   bY)
  (aU (kE (aG (LL.iD 6) (aA (aG kM (aA (aB 5) aE)) (aA (aB 6) aE))) (aG (LL.iD 6) (aA (aG LL.lN (aA (aB 4) aE)) (aA (aB 6) aE)))))))))))))
end XS
end
section
namespace XS
open PySem L3 L4 LL
def pr (p:Int×Int):List Int:=[p.1,p.2]
def aDo (x:List (List Int)) (k:Nat):List (Int×Int):=(bG 0 k).flatMap fun b=>(row x b).map fun a=>(a,b)
##j0 {x:List (List Int)} {b:Int} (h0:0<=b) (h1:b<(x.length:Int)):x[b.toNat]? = some (row x b):=by
 have:b.toNat<x.length:=by omega
 ~row
 rw [List.getElem?_eq_getElem this]
 rfl
def un (t:List Int):Int×Int:=(t.getD 0 0,t.getD 1 0)
def srt (l:List (Int×Int)):List (Int×Int):=(Q8 (l.map pr)).map un
end XS
end
section
namespace K03
open PySem L3 L4
def A1:eT:=bK 4 1
  (aH (iA 1 (dL aE))
  (aH (dE (nV (aA (aB 0) aE)) (HK 2 3)
   (sX (kU 1 NC (aZ (bJ 1 [2] (dD (aB 3)) (g1 0) cH (dG (aA (aB 0) (aA (aB 1) aE))))))))
  (aU (bF bW (aA (bF CK (aA (aB 1) aE)) aE)))))
def NL:eT:=bK 4 2
  (aH (aN 2 (aC aY (aB 1) (eC (.int 0))))
  (aH (aN 3 (aC aY (aB 1) (eC (.int 1))))
  (aU (W8 (bF anyM (aA (bJ 1 [2,0] (dD (aC aY (aB 0) (aB 3))) (g1 0) cH (aC (lY false) (aB 1) (aC aY (aB 2) (aB 0)))) aE))))))
def E5:eT:=bK 1 1
  (aU (bF bW (aA (bJ 1 [0] (dD (aG A1 (aA (aB 0) aE))) (g1 0) (tV (aG NL (aA (aB 1) (aA (aB 0) aE)))) (aB 0)) aE)))
def rT:eT:=bK 3 1
  (aH (aN 1 (dL aE))
  (aH (dE (aR (aA (bF aV (aA (aB 0) aE)) aE)) (lE 2)
   (aN 1 (aC bO (aB 1) (bJ 1 [2] (dD (aC aY (aB 0) (aB 2))) (g1 0) cH (dG (aA (aB 0) (aA (aB 1) aE)))))))
  (aU (bF CK (aA (aB 1) aE)))))
def IF:eT:=bK 9 2
  (aH (iA 2 (dL aE))
  (aH (dE (aR (aA (aB 0) aE)) (lE 3)
   (aH (iA 4 (dL aE))
   (aH (iA 5 (dL (aA (aB 3) aE)))
   (aH (CJ Q7 (tV (aC tL (bF aV (aA (aB 5) aE)) (eC (.int 0))))
    (aH (uL 6 (AN 5))
    (dE (dD (aB 1)) (HK 7 8)
     (eV (kX (tV (aC kT (aB 8) (aB 6))) (tV (aC (lY true) (aB 7) (aB 4))))
      (aH (sX (kU 4 eX (aZ (aB 7))))
      (sX (kU 5 eX (aZ (aB 7)))))
      bY))))
   (aH (eV (tV (aC (lY false) (aB 3) (aB 4)))
    (aU (eC .non))
    bY)
   (sX (kU 2 eX (fZ (bF bW (aA (bF gE (aA (aB 4) aE)) aE))))))))))
  (aU (bF bW (aA (aB 2) aE)))))
def RU:eT:=bK 5 1
  (aH (iA 1 (dL aE))
  (aH (dE (dD (aG rT (aA (aB 0) aE))) (HK 2 3)
   (aH (aN 4 (bJ 1 [2,0,3] (aR (aA (bF aV (aA (aB 0) aE)) aE)) (g1 0) (kX (tV (aC (lY false) (aB 1) (aC aY (aB 2) (aB 0)))) (tV (aC (lY false) (aB 0) (aC aY (aB 2) (aB 3))))) (aB 0)))
   (eV (tV (aC kT (bF aV (aA (aB 4) aE)) (eC (.int 0))))
    (sX (kU 1 eX (aZ (dG (aA (aB 2) (aA (aB 3) aE))))))
    bY)))
  (aU (aB 1))))
def tQ:eT:=bK 2 1
  (aH (aN 1 (aG E5 (aA (aB 0) aE)))
  (aH (eV (u4 (hZ (tV (aG (LL.iD 6) (aA (aG A1 (aA (aB 0) aE)) (aA (bF bW (aA (aG rT (aA (aB 0) aE)) aE)) aE))))) (hZ (tV (aG (LL.iD 6) (aA (aB 1) (aA (bF bW (aA (aG RU (aA (aB 0) aE)) aE)) aE))))))
   (aU (eC (.bl false)))
   bY)
  (aU (aC qE (aG IF (aA (bF aV (aA (aB 0) aE)) (aA (aB 1) aE))) (aB 0)))))
def rV:eT:=bK 3 1
  (aH (aN 1 (aG LL.pA (aA (aB 0) (aA (eC (.int 0)) (aA (eC (.int 9)) (aA (eC (.int 100003)) aE))))))
  (aH (aN 2 (aG LL.pA (aA (aB 0) (aA (eC (.int 2)) (aA (eC (.int 9)) (aA (eC (.int 300007)) aE))))))
  (aU (kE (aG tQ (aA (aB 1) aE)) (kE (aG tQ (aA (aB 2) aE)) (aG tQ (aA (aB 1) aE)))))))
end K03
end
section
namespace K03
open PySem L3 L4 LL XS
##aIU {i:Nat} {m:List D->D->Option (List D×D)} {x:XF} {ρ ρ1:aP} {d:D} {ds0 ds:List D} {q:List D×D} (h0:nQ ρ[i]? = some ds0) (hx:x ρ=some (ρ1,d)) (h1:nQ ρ1[i]? = some ds) (hm:m ds d=some q) :
  kU i m x ρ=some (ρ1.set i (.ow (.lst q.1)),q.2):=by
 ~kU
 rw [h0,Option.bind_some,hx,Option.bind_some,h1,Option.bind_some,hm]
 rfl
section
variable {x:List (List Int)} (hx:Ord.Rows x)
include hx
##E6 {a c:Int} (h0:0<=c) (h1:c<(x.length:Int)) (h:a∈row x c):0<=a/\a<(x.length:Int):=hx.rng _ _ (j0 h0 h1) a h
##XT {a b c:Int} (h0:0<=c) (h1:c<(x.length:Int)) (hb:b∈row x c) (ha:a∈row x b):a∈row x c:=by
 &⟨b0,b1⟩:=E6 hx h0 h1 hb
 !hx.tr c.toNat b.toNat _ _ (j0 h0 h1) (by rw [show ((b.toNat:Nat):Int)=b by omega]; !hb) (j0 b0 b1) a ha
##aDq {c:Int} (h0:0<=c) (h1:c<(x.length:Int)):c∉row x c:=fun h=>hx.W4 c.toNat _ (j0 h0 h1) (by rw [show ((c.toNat:Nat):Int)=c by omega]; !h)
end
def aBN (x:List (List Int)) (p:Int×Int):Bool:=!(row x p.2).any fun c=>(row x c).contains p.1
structure Cl (x:List (List Int)) (P:List (Int×Int)) (b:Int) (u f:List Int):Prop where
 nd:u.Nodup
 sub:∀ a∈u,a∈row x b
 fr:∀ a∈f,a=b\/a∈u
 cl:∀ c,(c=b\/c∈u)->c∉f -> ∀ a,(a,c)∈P->a∈u
abbrev T (x:List (List Int)):List (Int×Int):=srt (aDo x x.length)
abbrev B (x:List (List Int)):List (Int×Int):=(T x).filter (aBN x)
end K03
end
section
namespace LL
open PySem L3 L4
def NM:eT:=bK 5 3
  (aH (eV (tV (aC geM (aB 0) (aC HQ (eC (.int 10)) (eC (.int 18)))))
   (aU (aC dI (aC mX (aB 0) (eC (.int 64))) (aB 1)))
   bY)
  (aH (aN 3 (eC (.int 0)))
  (aH (dE (aR (aA (eC (.int 20)) aE)) (lE 4)
   (aN 3 (aC bO (aC mulM (aB 3) (eC (.int 1000000007))) (aG LL.fU (aA (aB 0) (aA (aB 4) (aA (aB 2) aE)))))))
  (aU (aC dI (aB 3) (aB 1))))))
##runN {n np:Nat} {b:SF} {ds:List D} {ρ:aP} (hl:ds.length=np) (h:b (fA n ds)=.nx ρ):bK n np b ds=.ok .non:=by
 ~bK
 rw [if_pos hl,h]
##aIW {r:RF} {f:SF} {ρ:aP} {o:Out} (h:r (bT ρ)=none) (h2:f ρ=o):wJ r f ρ=o:=by
 ~wJ
 rw [h]
 !h2
##aIX {a:EF} {ρ:bR} {x:D} (ha:a ρ=some x):dG (aA a aE) ρ=some (.tup [x]):=LA (args1 ha) (by simp)
##NN {a b:EF} {ρ:bR} {x y:D} (ha:a ρ=some x) (hb:b ρ=some y):dG (aA a (aA b aE)) ρ=some (.tup [x,y]):=LA (args2 ha hb) (by simp)
def at0 (fl:List Int) (a:Int):Int:=(fl[a.toNat]?).getD 0
##aBO {fl:List Int} {a:Int} (h0:0<=a) (h1:a<(fl.length:Int)):aY (tupI fl) (.int a)=some (.int (at0 fl a)):=by
 &⟨x,_,e,e2⟩:=RL h0 h1
 show zG (fl.map D.int) a=_
 rw [CU,e]
 ~at0
 rw [e2]
 rfl
##w4 {fl:List Int} {a:Int} (h0:0<=a) (h1:a<(fl.length:Int)):aY (aK fl) (.int a)=some (.int (at0 fl a)):=aBO h0 h1
def bA:eT:=bK 3 3
  (eV (u4 (hZ (tV (aG LL.dA (aA (aB 1) (aA (aB 0) aE))))) (hZ (tV (aG LL.dA (aA (aB 2) (aA (aB 0) aE))))))
   (rN (aA (eC (.str "a number that is no thing of the order")) aE) "NoThing")
   bY)
def eW:eT:=bK 8 3
  (aH (wJ (wH LL.bA (aA (bF aV (aA (aB 0) aE)) (aA (aB 1) (aA (aB 2) aE)))) (sX (aZ (aG LL.bA (aA (bF aV (aA (aB 0) aE)) (aA (aB 1) (aA (aB 2) aE)))))))
  (aH (eV (u4 (tV (aC kT (aB 1) (aB 2))) (tV (aC (lY false) (aB 2) (aC aY (aB 0) (aB 1)))))
   (rN (aA (eC (.str "a thing would lie under itself")) aE) "Looped")
   bY)
  (aH (aN 3 (aC bO (aC aY (aB 0) (aB 1)) (dG (aA (aB 1) aE))))
  (aH (iA 4 (dL aE))
  (aH (XG (dE (nV (aA (aB 0) aE)) (HK 5 6)
   (aH (aN 7 (eOr (aC kT (aB 5) (aB 2)) (aC (lY false) (aB 2) (aB 6))))
   (sX (kU 4 eX (aZ (eIf (tV (aB 7)) (bF bW (aA (bF gF (aA (aC bO (aB 6) (aB 3)) aE)) aE)) (aB 6))))))))
  (aU (bF bW (aA (aB 4) aE))))))))
##RV {ns:List Int} {k a:Int}:a∈putN ns k↔a∈ns\/a=k:=by
 ~putN
 split
 ·rename_i h
  !⟨.inl,fun q=>q.elim id fun z=>z▸h⟩
 ·rw [List.mem_append,List.mem_singleton]
##IG {ns:List Int} {k:Int} (h:ns.Nodup):(putN ns k).Nodup:=by
 ~putN
 split
 ·!h
 ·rename_i z
  !List.nodup_append.mpr ⟨h,by simp,fun a ha b hb=>by
   rw [List.mem_singleton] at hb
   intro e
   subst e
   subst hb
   !z ha⟩
##A2:∀ (ks ns:List Int),ns.Nodup->(ks.foldl putN ns).Nodup /\ ∀ a,a∈ks.foldl putN ns↔a∈ns\/a∈ks
 | [],ns,h=>⟨h,fun a=>by simp⟩
 | k::ks,ns,h=>by
  &⟨h1,h2⟩:=A2 ks (putN ns k) (IG h)
  @⟨h1,fun a=>?_⟩
  rw [List.foldl_cons,h2,RV,List.mem_cons,or_assoc]
##RW (ns:List Int):(CM ns).Nodup /\ ∀ a,a∈CM ns↔a∈ns:=by
 &⟨h1,h2⟩:=A2 ns [] (by simp)
 !⟨h1,fun a=>by ~CM; rw [h2]; simp⟩
def both (r l:List Int):List Int:=sortI (CM (r++l))
##CZ (r l:List Int):(both r l).Pairwise (·<·):=by
 have h1:=jY (CM (r++l))
 have h2:(both r l).Nodup:=(sortI_perm (CM (r++l))).nodup_iff.mpr (RW _).1
 !(List.Pairwise.and h1 h2).imp fun q=>by omega
##E7 {r l:List Int} {a:Int}:a∈both r l↔a∈r\/a∈l:=by
 ~both
 rw [(sortI_perm _).mem_iff,(RW _).2,List.mem_append]
##XU {r l:List Int} (h:r.length+l.length<64):gF [.tup (r.map D.int++l.map D.int)]=some (.lst ((both r l).map D.int)):=by
 ~gF
 rw [<- List.map_append]
 dsimp only
 rw [eK]
 show (if (r++l).length<64 then _ else _)=_
 rw [if_pos (by rw [List.length_append]; !h)]
 rfl
##rc3 {R:eT} {a b c:EF} {ρ:bR} {x y z:D} {o:Option Str} (ha:a ρ=some x) (hb:b ρ=some y) (hc:c ρ=some z) (h:aDh (R [x,y,z])=o):wH R (aA a (aA b (aA c aE))) ρ=o:=by
 ~wH aA aE
 rw [ha,hb,hc]
 !h
def thing (n a:Int):Bool:=decide (0<=a)&&decide (a<n)
##A3 {n a b:Int} (ha:thing n a=true) (hb:thing n b=true):bA [.int n,.int a,.int b]=.ok .non:=by
 ~bA
 @runN (ρ:=[Sv.ro (.int n),Sv.ro (.int a),Sv.ro (.int b)]) rfl (NJ ?_ rfl)
 @RP (b:=false) (XQ (mZ (eM rfl rfl (jH a n)) rfl) (by rw [show (decide (0<=a)&&decide (a<n))=true from ha]; rfl)) (fun _=>?_) (fun z=>by cases z)
 !XQ (mZ (eM rfl rfl (jH b n)) rfl) (by rw [show (decide (0<=b)&&decide (b<n))=true from hb]; rfl)
##fI {n a:Int}:thing n a=true↔0<=a/\a<n:=by simp [thing]
##aDr {ρ:aP} {x:List (List Int)} {a b:Int} {r:aP} (hr:ρ=Sv.ro (aJ x)::Sv.ro (.int a)::Sv.ro (.int b)::r) (ha:thing x.length a=true) (hb:thing x.length b=true) :
  wJ (wH LL.bA (aA (bF aV (aA (aB 0) aE)) (aA (aB 1) (aA (aB 2) aE)))) (sX (aZ (aG LL.bA (aA (bF aV (aA (aB 0) aE)) (aA (aB 1) (aA (aB 2) aE)))))) ρ=.nx ρ:=by
 subst hr
 @aIW (rc3 (dJ rfl dZ) rfl rfl (by rw [A3 ha hb]; rfl)) ?_
 ~sX aZ
 rw [fL (dJ rfl dZ) rfl rfl (A3 ha hb)]
 rfl
def vB (b:Int) (lower:List Int) (p:List Int×Nat):List Int:=if decide ((p.2:Int)=b)||p.1.contains b then both p.1 lower else p.1
def put (x:List (List Int)) (a b:Int):List (List Int):=x.zipIdx.map (vB b (row x a++[a]))
def nL (x:List (List Int)) (a b:Int):Bool:=decide (a=b)||(row x a).contains b
##NO {x:List (List Int)} {a b:Int} {r:aP} (ha:thing x.length a=true):(u4 (tV (aC kT (aB 1) (aB 2))) (tV (aC (lY false) (aB 2) (aC aY (aB 0) (aB 1))))) (bT (Sv.ro (aJ x)::Sv.ro (.int a)::Sv.ro (.int b)::r))=some (nL x a b):=by
 &⟨h0,h1⟩:=fI.mp ha
 @RP (b:=decide (a=b)) (mZ (aM (x:=.int a) (y:=.int b) rfl rfl fV) rfl) (fun z=>?_) (fun z=>by ~nL; rw [z]; rfl)
 ~nL
 rw [z,Bool.false_or]
 !mZ (aM (x:=.int b) (y:=tupI (row x a)) rfl (aM (x:=aJ x) (y:=.int a) rfl rfl (kL h0 h1)) IE) rfl
##RX {x:List (List Int)} {a b:Int} (hn:x.length<=1000) (hr:∀ r∈x,r.length<=9) (ha:thing x.length a=true) (hb:thing x.length b=true) (h:nL x a b=false):eW [aJ x,.int a,.int b]=.ok (aJ (put x a b)):=by
 &⟨h0,h1⟩:=fI.mp ha
 have hw:(row x a).length<=9:=by
  ~row
  rw [List.getElem?_eq_getElem °]
  !hr _ (List.getElem_mem _)
 ~eW
 @jP rfl (fF _ (aDr rfl ha hb) (fF _ (NJ ((NO ha).trans (congrArg some h)) rfl) (fF _ (iE (tupI (row x a++[a])) (aM (x:=tupI (row x a)) (y:=.tup [.int a]) (aM (x:=aJ x) (y:=.int a) rfl rfl (kL h0 h1)) (aIX rfl) ?_) rfl) (fF [Sv.ro (aJ x),Sv.ro (.int a),Sv.ro (.int b),Sv.ro (tupI (row x a++[a])),Sv.ow (.lst []),Sv.no,Sv.no,Sv.no] rfl ?_))))
 ·~tupI
  rw [EY (by simp; omega),List.map_append]
  rfl
 ·have L:Nx (dE (nV (aA (aB 0) aE)) (HK 5 6)
    (aH (aN 7 (eOr (aC kT (aB 5) (aB 2)) (aC (lY false) (aB 2) (aB 6))))
    (sX (kU 4 eX (aZ (eIf (tV (aB 7)) (bF bW (aA (bF gF (aA (aC bO (aB 6) (aB 3)) aE)) aE)) (aB 6)))))) [Sv.ro (aJ x),Sv.ro (.int a),Sv.ro (.int b),Sv.ro (tupI (row x a++[a])),Sv.ow (.lst []),Sv.no,Sv.no,Sv.no])
    fun ρ=>∃ v5 v6 v7,ρ=[Sv.ro (aJ x),Sv.ro (.int a),Sv.ro (.int b),Sv.ro (tupI (row x a++[a])),Sv.ow (.lst ((put x a b).map tupI)),v5,v6,v7]:=by
   @CV ((x.map tupI).zipIdx.map fun p=>D.tup [.int (p.2:Int),p.1]) (fun i ρ=>∃ v5 v6 v7,ρ=[Sv.ro (aJ x),Sv.ro (.int a),Sv.ro (.int b),Sv.ro (tupI (row x a++[a])),Sv.ow (.lst (((put x a b).take i).map tupI)),v5,v6,v7]) rfl ⟨_,_,_,rfl⟩ ?_ ?_
   ·rintro i d _ hd ⟨v5,v6,v7,rfl⟩
    rw [zipIdx_map,List.map_map,List.getElem?_map] at hd
    &⟨⟨r,j⟩,hz,rfl⟩:=Option.map_eq_some_iff.mp hd
    have hj:j=i/\x[i]? = some r:=by
     rw [List.getElem?_zipIdx] at hz
     &⟨r',e1,e2⟩:=Option.map_eq_some_iff.mp hz
     cases e2
     !⟨by omega,e1⟩
    &⟨rfl,hx⟩:=hj
    have rl:r.length<=9:=hr r (List.mem_of_getElem? hx)
    @⟨[Sv.ro (aJ x),Sv.ro (.int a),Sv.ro (.int b),Sv.ro (tupI (row x a++[a])),Sv.ow (.lst (((put x a b).take j).map tupI)),Sv.ro (.int j),Sv.ro (tupI r),v7],rfl,?_⟩
    have hpj:(put x a b)[j]? = some (vB b (row x a++[a]) (r,j)):=by
     ~put
     rw [List.getElem?_map,hz]
     rfl
    have tk:(put x a b).take (j+1)=(put x a b).take j++[vB b (row x a++[a]) (r,j)]:=by
     rw [List.take_add_one,hpj]
     rfl
    have e7:(eOr (aC kT (aB 5) (aB 2)) (aC (lY false) (aB 2) (aB 6))) (kD [Sv.ro (aJ x),Sv.ro (.int a),Sv.ro (.int b),Sv.ro (tupI (row x a++[a])),Sv.ow (.lst (((put x a b).take j).map tupI)),Sv.ro (.int j),Sv.ro (tupI r),v7])=some (.bl (decide ((j:Int)=b)||r.contains b)):=by
     ~eOr
     rw [aM (x:=.int j) (y:=.int b) rfl rfl fV,aM (x:=.int b) (y:=tupI r) rfl rfl IE]
     simp only [Option.bind_some,rR]
     cases decide ((j:Int)=b)<;>rfl
    @⟨_,fF _ (iE _ e7 rfl) ?_,Sv.ro (.int j),Sv.ro (tupI r),Sv.ro (.bl (decide ((j:Int)=b)||r.contains b)),rfl⟩
    rw [tk]
    ~sX
    have ev:(aZ (eIf (tV (aB 7)) (bF bW (aA (bF gF (aA (aC bO (aB 6) (aB 3)) aE)) aE)) (aB 6))) [Sv.ro (aJ x),Sv.ro (.int a),Sv.ro (.int b),Sv.ro (tupI (row x a++[a])),Sv.ow (.lst (((put x a b).take j).map tupI)),Sv.ro (.int j),Sv.ro (tupI r),Sv.ro (.bl (decide ((j:Int)=b)||r.contains b))]
      = some ([Sv.ro (aJ x),Sv.ro (.int a),Sv.ro (.int b),Sv.ro (tupI (row x a++[a])),Sv.ow (.lst (((put x a b).take j).map tupI)),Sv.ro (.int j),Sv.ro (tupI r),Sv.ro (.bl (decide ((j:Int)=b)||r.contains b))],tupI (vB b (row x a++[a]) (r,j))):=by
     ~aZ eIf
     rw [mZ (b:=decide ((j:Int)=b)||r.contains b) rfl rfl]
     ~vB
     cases decide ((j:Int)=b)||r.contains b with
     | false=>rfl
     | true =>
      simp only [Option.bind_some,if_true]
      rw [dJ (x:=.lst ((both r (row x a++[a])).map D.int)) (dJ (x:=.tup (r.map D.int++(row x a++[a]).map D.int)) (aM (x:=tupI r) (y:=tupI (row x a++[a])) rfl rfl (EY (by simp; omega))) (XU (by simp; omega))) rfl]
      rfl
    have pl:((put x a b).take j).length<1000+1:=by
     rw [List.length_take]
     have:(put x a b).length=x.length:=by simp [put]
     omega
    have ex:=K03.aIU (i:=4) (m:=eX) rfl ev rfl (pB (d:=tupI (vB b (row x a++[a]) (r,j))) (ds:=((put x a b).take j).map tupI) (by rw [List.length_map]; omega))
    @(congrArg (fun o:Option (aP×D)=>match o with | some p=>Out.nx p.1 | none=>Out.no) ex).trans ?_
    rw [List.map_append]
    rfl
   ·rintro ρ' ⟨v5,v6,v7,rfl⟩
    @⟨v5,v6,v7,?_⟩
    rw [List.take_of_length_le (by simp [put])]
  &⟨ρ',e,v5,v6,v7,rfl⟩:=L
  @fF _ (by ~XG; rw [e]) (kH ?_)
  !dJ rfl rfl
end LL
end
section
namespace LL
open PySem L3 L4 K03 XS
##XW {y:List (List Int)} (up:∀ d:Int,0<=d->d<(y.length:Int)->(row y d).Pairwise (·<·)) (rng:∀ c d:Int,0<=d->d<(y.length:Int)->c∈row y d->0<=c/\c<(y.length:Int))
  (tr:∀ c v d:Int,0<=d->d<(y.length:Int)->v∈row y d->c∈row y v->c∈row y d) (W4:∀ d:Int,0<=d->d<(y.length:Int)->d∉row y d):Ord.Rows y:=by
 have w8:∀ (b:Nat) (r:List Int),y[b]? = some r->row y (b:Int)=r/\(b:Int)<(y.length:Int):=fun b r h=>by
  ~row
  rw [Int.toNat_natCast,h]
  have:=(List.getElem?_eq_some_iff.1 h).1
  !⟨rfl,by omega⟩
 @⟨fun b r h=>?_,fun b r h a ha=>?_,fun b a r v h ha hv c hc=>?_,fun b r h=>?_⟩
 ·&⟨e,l⟩:=w8 b r h
  rw [<- e]
  !up b ° l
 ·&⟨e,l⟩:=w8 b r h
  rw [<- e] at ha
  !rng a b ° l ha
 ·&⟨e,l⟩:=w8 b r h
  &⟨e2,l2⟩:=w8 a v hv
  rw [<- e] at ha ⊢
  rw [<- e2] at hc
  !tr c a b ° l ha hc
 ·&⟨e,l⟩:=w8 b r h
  rw [<- e]
  !W4 b ° l
##dP (x:List (List Int)) (a b:Int):(put x a b).length=x.length:=by simp [put]
##C0 {x:List (List Int)} {a b d:Int} (h0:0<=d) (h1:d<(x.length:Int)):row (put x a b) d=vB b (row x a++[a]) (row x d,d.toNat):=by
 have hk:d.toNat<x.length:=by omega
 ~row put
 rw [List.getElem?_map,List.getElem?_zipIdx,List.getElem?_eq_getElem hk]
 simp [row]
##lG {x:List (List Int)} {a b c d:Int} (h0:0<=d) (h1:d<(x.length:Int)):c∈row (put x a b) d↔c∈row x d\/((d=b\/b∈row x d)/\(c=a\/c∈row x a)):=by
 rw [C0 h0 h1]
 ~vB
 have e:((d.toNat:Nat):Int)=d:=by omega
 rw [e]
 by_cases h:(decide (d=b)||(row x d).contains b)=true
 ·rw [if_pos h,E7,List.mem_append,List.mem_singleton]
  have h':d=b\/b∈row x d:=¥h
  constructor
  ·rintro (z | z | z)
   ·!.inl z
   ·!.inr ⟨h',.inr z⟩
   ·!.inr ⟨h',.inl z⟩
  ·rintro (z | ⟨_,z | z⟩)
   ·!.inl z
   ·!.inr (.inr z)
   ·!.inr (.inl z)
 ·rw [if_neg h]
  have h':¬ (d=b\/b∈row x d):=¥h
  !⟨.inl,fun z=>z.elim id fun q=>absurd q.1 h'⟩
##RY {x:List (List Int)} {a b:Int} (h:nL x a b=false):a≠b/\b∉row x a:=by
 ~nL at h
 simpa using h
##E8 {x:List (List Int)} (hx:Ord.Rows x) {a b:Int} (ha:thing x.length a=true) (hb:thing x.length b=true) (h:nL x a b=false):Ord.Rows (put x a b):=by
 &⟨a0,a1⟩:=fI.mp ha
 &⟨b0,b1⟩:=fI.mp hb
 &⟨nab,nba⟩:=RY h
 @XW (fun d d0 d1=>?_) (fun c d d0 d1 hc=>?_) (fun c v d d0 d1 hv hc=>?_) fun d d0 d1 hd=>?_
 ·rw [dP] at d1
  rw [C0 d0 d1]
  ~vB
  split
  ·!CZ _ _
  ·!hx.up _ _ (j0 d0 d1)
 ·rw [dP] at d1 ⊢
  rcases (lG d0 d1).1 hc with z | ⟨_,z | z⟩
  ·!E6 hx d0 d1 z
  ·omega
  ·!E6 hx a0 a1 z
 ·rw [dP] at d1
  have hv':=(lG d0 d1).1 hv
  have vr:0<=v/\v<(x.length:Int):=by
   rcases hv' with z | ⟨_,z | z⟩
   ·!E6 hx d0 d1 z
   ·omega
   ·!E6 hx a0 a1 z
  @(lG d0 d1).2 ?_
  rcases (lG vr.1 vr.2).1 hc with z | ⟨u,l⟩
  ·rcases hv' with y | ⟨u,l⟩
   ·!.inl (XT hx d0 d1 y z)
   ·@.inr ⟨u,.inr ?_⟩
    rcases l with e | l
    ·rw [e] at z
     !z
    ·!XT hx a0 a1 l z
  ·@.inr ⟨?_,l⟩
   rcases hv' with y | ⟨u2,_⟩
   ·rcases u with e | u
    ·rw [e] at y
     !.inr y
    ·!.inr (XT hx d0 d1 y u)
   ·!u2
 ·rw [dP] at d1
  rcases (lG d0 d1).1 hd with z | ⟨u,l⟩
  ·!aDq hx d0 d1 z
  ·rcases u with e | u
   ·rcases l with e2 | l
    ·!nab (e2.symm.trans e)
    ·rw [e] at l
     !nba l
   ·rcases l with e2 | l
    ·rw [e2] at u
     !nba u
    ·!nba (XT hx a0 a1 l u)
end LL
end
section
namespace LL
open PySem L3 L4
def RZ:eT:=bK 2 2
  (aU (bF bW (aA (bF RA (aA (aC bO (aB 0) (dG (aA (aB 1) aE))) aE)) aE)))
def w9:eT:=bK 3 2
  (aH (aN 2 (bJ 1 [1] (aR (aA (bF aV (aA (aB 0) aE)) aE)) (g1 0) (tV (aC (lY true) (aB 0) (aB 1))) (aB 0)))
  (aU (bJ 1 [1,0] (dD (aB 2)) (g1 0) (tV (bF allM (aA (bJ 1 [1] (dD (aC aY (aB 2) (aB 0))) (g1 0) cH (aC (lY false) (aB 0) (aB 1))) aE))) (aB 0))))
def bL (x:List (List Int)) (a:List Int):List Int:=((bG 0 x.length).filter fun t=>!a.contains t).filter fun t=>(row x t).all fun l=>a.contains l
def cQ (a:List Int) (t:Int):List Int:=sortI (a++[t])
def okI (x:List (List Int)) (a:List Int):Prop:=a.Nodup /\ ∀ t∈a,0<=t/\t<(x.length:Int)
##iT {x:List (List Int)} {a:List Int} {t:Int} (h:t∈bL x a):(0<=t/\t<(x.length:Int))/\t∉a:=by
 ~bL at h
 have h1:=(List.mem_filter.mp h).1
 have h2:=List.mem_filter.mp h1
 have:=cB.mp h2.1
 !⟨by omega,¥h2.2⟩
##C4 (n:Nat):(bG 0 n).Nodup:=by
 @List.pairwise_iff_getElem.mpr fun i j hi hj hij=>?_
 have e1:=nY (lo:=0) (n:=n) (i:=i) (by simpa [aQ] using hi)
 have e2:=nY (lo:=0) (n:=n) (i:=j) (by simpa [aQ] using hj)
 rw [List.getElem?_eq_getElem hi] at e1
 rw [List.getElem?_eq_getElem hj] at e2
 have e1:=Option.some.inj e1
 have e2:=Option.some.inj e2
 omega
##NP {x:List (List Int)} {a:List Int} (h:okI x a):(bL x a).length+a.length<=x.length:=by
 have nd:(bL x a++a).Nodup:=by
  @List.nodup_append.mpr ⟨?_,h.1,fun u hu v hv e=>(iT hu).2 (e▸hv)⟩
  ~bL
  !List.Pairwise.filter _ (List.Pairwise.filter _ (C4 x.length))
 have:=Ord.eJ _ (bG 0 x.length) nd fun t ht=>cB.mpr (by
  rcases List.mem_append.1 ht with z | z
  ·have:=(iT z).1; omega
  ·have:=h.2 t z; omega)
 rwa [List.length_append,aQ] at this
##XX {x:List (List Int)}:okI x []:=⟨List.nodup_nil,fun t ht=>by cases ht⟩
end LL
end
section
namespace L7
open PySem L3 L4 LL
section
variable (rd:List Int->List (List Int))
def Wf:Nat->List Int->Int
 | 0,_=>1
 | m+1,a=>((rd a).map (Wf m)).sum
end
end L7
end
section
namespace K24
def fact:Nat->Int
 | 0=>1
 | k+1=>fact k*(k+1)
def ff (x:Int):Nat->Int
 | 0=>1
 | k+1=>ff x k*(x - k)
--CUT
def C (x:Int) (m:Nat):Int:=ff x m / fact m
def diffs:List Int->List Int
 | a::b::l=>(b - a)::diffs (b::l)
 | _=>[]
##rW:∀ l:List Int,(diffs l).length=l.length - 1
 | []=>rfl
 | [_]=>rfl
 | a::b::l=>by rw [diffs,List.length_cons,rW (b::l)]; simp
def fd (l:List Int):List Int:=match l with
 | []=>[]
 | a::r=>a::fd (diffs (a::r))
termination_by l.length
decreasing_by rw [rW]; simp
def vals (f:Int->Int):Nat->Int->List Int
 | 0,_=>[]
 | n+1,x=>f x::vals f n (x+1)
def DV (n:Nat) (d:Int):List Int->Int->Int
 | [],_=>0
 | w::l,k=>w*C (k+n - 1 - d) n+DV n (d+1) l k
end K24
end
section
namespace LL
open PySem L3 L4
def LF:eT:=bK 2 2
  (aU (bJ 2 [] (RE (aA (aB 0) (aA (aB 1) aE))) (g2 0 1) cH (aC bO (aB 0) (aB 1))))
def qJ:eT:=bK 1 1
  (aU (aC bO (dL (aA (eC (.int 0)) aE)) (K0 (aB 0) W3 (oE (mW (eC (.int 1)))))))
def p4:Nat->FnM
 | 0=>fun _ _=>.no
 | n+1=>runM 8 4
  ((aH (aN 4 (dG (aA (aB 1) (aA (aB 2) aE))))
  (eV (tV (aC (zM true) (aB 4) (aB 3)))
   (aH (iA 5 (aC repLM (dL (aA (eC (.int 0)) aE)) (bF aAP (aA (bF aV (aA (aB 0) aE)) (aA (eC (.int 1)) aE)))))
   (aH (eV (tV (aC kT (bF aV (aA (aB 1) aE)) (bF aV (aA (aB 0) aE))))
    (aIL 5 (aZ (eC (.int 1))) (eC (.int 0)))
    bY)
   (aH (XE 5 (dE (dD (aG LL.w9 (aA (aB 0) (aA (aB 1) aE)))) (lE 6)
    (aH (aBI 7 (p4 n) (aA (aB 0) (aA (aG LL.RZ (aA (aB 1) (aA (aB 6) aE))) (aA (aB 6) aE))) 3)
    (aN 5 (aG LL.LF (aA (aB 5) (aA (eIf (tV (aC tL (aB 2) (aB 6))) (aG LL.qJ (aA (aB 7) aE)) (aB 7)) aE)))))))
   (mC 3 (aZ (aB 5)) (aB 4)))))
   bY)))
  (aB 4)
def E9:eT:=bK 2 1
  (aH (EX 1)
  (aH (aIT (LL.p4 11) (aA (aB 0) (aA (dG aE) (aA (eC (.int 0)) aE))) 1)
  (aU (aB 1))))
def eE:eT:=bK 1 1
  (aU (bF bW (aA (aC pS (aG LL.E9 (aA (aB 0) aE)) (dG (aA (dG aE) (aA (eC (.int 0)) aE)))) aE)))
def R3:eT:=bK 4 2
  (aH (aN 2 (eC (.int 1)))
  (aH (dE (aR (aA (aB 1) aE)) (lE 3)
   (aN 2 (aC mX (aC mulM (aB 2) (aC fE (aB 0) (aB 3))) (aC bO (aB 3) (eC (.int 1))))))
  (aU (aB 2))))
def jT:eT:=bK 3 3
  (aU (bF u7 (aA (bJ 2 [1,2] (nV (aA (aB 0) aE)) (g2 0 1) cH (aC mulM (aB 1) (aG LL.R3 (aA (aC fE (aC fE (aC bO (aB 3) (aB 2)) (eC (.int 1))) (aB 0)) (aA (aB 2) aE))))) aE)))
def IH:eT:=bK 2 2
  (aU (aG LL.jT (aA (aG LL.eE (aA (aB 0) aE)) (aA (bF aV (aA (aB 0) aE)) (aA (aB 1) aE)))))
def zN:eT:=bK 2 2
  (aU (bJ 2 [1] (RE (aA (aC bO (aB 0) (dL (aA (eC (.int 0)) aE))) (aA (aC bO (dL (aA (eC (.int 0)) aE)) (aB 0)) aE))) (g2 0 1) cH (aC bO (aC mulM (aB 2) (aB 0)) (aB 1))))
def qK:eT:=bK 5 3
  (aH (aN 3 (dL (aA (aB 0) aE)))
  (aH (dE (aR (aA (aB 2) aE)) (lE 4)
   (aN 3 (aG LL.zN (aA (aB 3) (aA (aC fE (aB 1) (aB 4)) aE)))))
  (aU (aB 3))))
def C5:eT:=bK 5 1
  (aH (aN 1 (bF aV (aA (aB 0) aE)))
  (aH (aN 2 (aC repLM (dL (aA (eC (.int 0)) aE)) (aC bO (aB 1) (eC (.int 1)))))
  (aH (dE (nV (aA (aG LL.eE (aA (aB 0) aE)) aE)) (HK 3 4)
   (aN 2 (aG LL.LF (aA (aB 2) (aA (aG LL.qK (aA (aB 4) (aA (aC fE (aC fE (aB 1) (eC (.int 1))) (aB 3)) (aA (aB 1) aE)))) aE)))))
  (aU (bF bW (aA (aB 2) aE))))))
def pT:eT:=bK 3 1
  (aH (iA 1 (dL aE))
  (aH (aN 2 (aB 0))
  (aH (CJ Q7 (tV (aB 2))
   (aH (sX (kU 1 eX (aZ (aC aY (aB 2) (eC (.int 0))))))
   (aN 2 (bJ 2 [] (RE (aA (aB 2) (aA (K0 (aB 2) (oE (eC (.int 1))) W3) aE))) (g2 0 1) cH (aC fE (aB 1) (aB 0))))))
  (aU (bF bW (aA (aB 1) aE))))))
def rX:eT:=bK 3 1
  (aH (aN 1 (bF aV (aA (aB 0) aE)))
  (aH (aN 2 (aG LL.eE (aA (aB 0) aE)))
  (aU (aG LL.pT (aA (bJ 1 [2,1] (aR (aA (aC bO (aB 1) (eC (.int 1))) aE)) (g1 0) cH (aG LL.jT (aA (aB 1) (aA (aB 2) (aA (aB 0) aE))))) aE)))))
def qL:eT:=bK 5 2
  (aH (aN 2 (eC (.int 1)))
  (aH (aN 3 (eC (.int 1)))
  (aH (dE (aR (aA (aB 1) aE)) (lE 4)
   (aH (aN 2 (aC mulM (aB 2) (aC fE (aB 0) (aB 4))))
   (aN 3 (aC mulM (aB 3) (aC bO (aB 4) (eC (.int 1)))))))
  (aU (aC mX (aB 2) (aB 3))))))
def tT:eT:=bK 2 2
  (aH (eV (u4 (hZ (tV (nP "tuple" (aB 0)))) (tV (aC KU (bF aV (aA (aB 0) aE)) (aB 1))))
   (aU (eC (.bl false)))
   bY)
  (aU (bF allM (aA (bJ 1 [] (dD (aB 0)) (g1 0) cH (kE (nP "int" (aB 0)) (W8 (nP "bool" (aB 0))))) aE))))
def NQ:eT:=bK 5 3
  (aH (aN 3 (aG LL.bX (aA (aG LL.cM (aA (aB 0) (aA (aB 1) aE))) (aA (eC (.int 3)) (aA (aB 2) aE)))))
  (aH (eV (tV (aC kT (aC dI (aC aY (aB 3) (eC (.int 0))) (eC (.int 3))) (eC (.int 0))))
   (aU (aC fE (aC dI (aC aY (aB 3) (eC (.int 1))) (eC (.int 25))) (eC (.int 12))))
   bY)
  (aH (aN 4 (aG LL.NM (aA (aG LL.cM (aA (aB 0) (aA (aC bO (aB 1) (eC (.int 1))) aE))) (aA (aC aY (dL (aA (aC HQ (eC (.int 10)) (eC (.int 4))) (aA (aC HQ (eC (.int 10)) (eC (.int 20))) (aA (aC HQ (eC (.int 10)) (eC (.int 59))) aE)))) (aC dI (aC aY (aB 3) (eC (.int 1))) (eC (.int 3)))) (aA (aC bO (aB 2) (eC (.int 70001))) aE)))))
  (aU (aC mulM (aB 4) (aC fE (eC (.int 1)) (aC mulM (eC (.int 2)) (aC dI (aC aY (aB 3) (eC (.int 2))) (eC (.int 2))))))))))
def iU:eT:=bK 1 1
  (aU (bJ 1 [] (dD (aB 0)) (g1 0) cH (bF u7 (aA (bJ 1 [] (dD (aB 0)) (g1 0) cH (aC wK (eC (.int 1)) (aB 0))) aE))))
##R4 {ks:List vO} {k k':vO} {v:D}:∀ {ks:List vO} {ds:List D},ks.length=ds.length->cP (fO ks ds k v).1 (fO ks ds k v).2 k' = if k' = k then some v else cP ks ds k':=by
 intro ks ds hl
 ~fO
 split
 ·rename_i hc
  have go:∀ (ks:List vO) (ds:List D),ks.length=ds.length->cP ks ((ks.zip ds).map fun p=>if p.1=k then v else p.2) k' = if k' = k then (cP ks ds k').map (fun _=>v) else cP ks ds k':=by
   intro ks
   induction ks with
   | nil=>intro ds _; simp [cP]
   | cons q ks ih =>
    intro ds hl
    cases ds with
    | nil=>simp at hl
    | cons d ds =>
     have:=ih ds (¥hl)
     ~cP at this ⊢
     by_cases h1:q=k'
     ·subst h1
      by_cases h2:q=k
      ·simp [h2]
      ·simp [h2]
     ·simpa [h1] using this
  have hin:k∈ks:=by
   rw [List.any_eq_true] at hc
   &⟨q,hq,e⟩:=hc
   rw [<- of_decide_eq_true e]
   !hq
  have some_of:∀ (ks:List vO) (ds:List D),ks.length=ds.length->k∈ks -> ∃ d,cP ks ds k=some d:=by
   intro ks
   induction ks with
   | nil=>intro ds _ h; cases h
   | cons q ks ih =>
    intro ds hl h
    cases ds with
    | nil=>simp at hl
    | cons d ds =>
     by_cases h1:q=k
     ·!⟨d,by simp [cP,h1]⟩
     ·&⟨d',e⟩:=ih ds (¥hl) ((List.mem_cons.1 h).resolve_left (Ne.symm h1))
      !⟨d',by ~cP at e ⊢; simpa [h1] using e⟩
  rw [go ks ds hl]
  by_cases h:k' = k
  ·subst h
   &⟨d,e⟩:=some_of ks ds hl hin
   rw [e]
   simp
  ·rw [if_neg h,if_neg h]
 ·rename_i hc
  have hn:k∉ks:=fun h=>hc (List.any_eq_true.2 ⟨k,h,by simp⟩)
  ~cP
  dsimp only
  rw [List.zip_append hl,List.find?_append]
  by_cases h:k' = k
  ·subst h
   have:((ks.zip ds).find? fun p=>decide (p.1=k'))=none:=by
    rw [List.find?_eq_none]
    intro p hp
    have:=List.of_mem_zip hp
    simp only [decide_eq_true_eq]
    !fun e=>hn (e▸this.1)
   rw [this]
   simp
  ·rw [if_neg h]
   have:([k].zip [v]).find? (fun p=>decide (p.1=k'))=none:=by simp [Ne.symm h]
   rw [this,Option.or_none]
##XY {ks:List vO} {ds:List D} {k:vO} {v:D} (h:ks.length=ds.length):(fO ks ds k v).1.length=(fO ks ds k v).2.length/\(fO ks ds k v).1.length<=ks.length+1:=by
 ~fO
 split
 ·simp [h]
 ·simp [h]
##NR {ks:List vO} {ds:List D} {k:vO} {v:D} (h:∀ q∈ks,q.isLeft=false) (hk:k.isLeft=false):∀ q∈(fO ks ds k v).1,q.isLeft=false:=by
 ~fO
 split
 ·!h
 ·intro q hq
  rcases List.mem_append.1 hq with z | z
  ·!h q z
  ·rw [List.mem_singleton.1 z]; !hk
##A4:∀ a:List Int,AO (a.map D.int)=some (a.map Sum.inl)
 | []=>rfl
 | x::a=>by rw [List.map_cons,AO,A4 a]; rfl
def kS (a:List Int) (l:Int):vO:=.inr [.inr (a.map Sum.inl),.inl (.inl l)]
##C6:∀ {a b:List Int},a.map (Sum.inl:Int->zL)=b.map Sum.inl->a=b
 | [],[],_=>rfl
 | [],_::_,h=>by simp at h
 | _::_,[],h=>by simp at h
 | x::a,y::b,h=>by
  simp only [List.map_cons,List.cons.injEq,Sum.inl.injEq] at h
  rw [h.1,C6 h.2]
##aBQ {a b:List Int} {l m:Int} (h:kS a l=kS b m):a=b/\l=m:=by
 ~kS at h
 simp only [Sum.inr.injEq,List.cons.injEq,Sum.inl.injEq,and_true] at h
 !⟨C6 h.1,h.2⟩
def zO (a b:List Int):List Int:=(a.zip b).map fun p=>p.1+p.2
def xA (l:List Int):List Int:=0::l.dropLast
def R5 (n:Nat):List Int:=1::List.replicate (max n 1 - 1) 0
def R6 (n:Nat):List Int:=List.replicate (max n 1) 0
section
variable (x:List (List Int))
def Sh:Nat->List Int->Int->List Int
 | 0,_,_=>R5 x.length
 | m+1,a,l=>(bL x a).foldl (fun acc t=>zO acc (if t<l then xA (Sh m (cQ a t) t) else Sh m (cQ a t) t)) (R6 x.length)
end
##uN {a b:List Int} (h:a.length=b.length):(zO a b).length=a.length:=by ~zO; simp [h]
##uO {a:List Int} (h:1<=a.length):(xA a).length=a.length:=by ~xA; simp; omega
##xB (n:Nat):(R6 n).length=max n 1:=by simp [R6]
##FA (n:Nat):(R5 n).length=max n 1:=by simp [R5]; omega
##A5 (x:List (List Int)):∀ (m:Nat) (a:List Int) (l:Int),(Sh x m a l).length=max x.length 1
 | 0,a,l=>FA _
 | m+1,a,l=>by
  ~Sh
  have go:∀ (ts:List Int) (acc:List Int),acc.length=max x.length 1->(ts.foldl (fun acc t=>zO acc (if t<l then xA (Sh x m (cQ a t) t) else Sh x m (cQ a t) t)) acc).length=max x.length 1:=by
   intro ts
   induction ts with
   | nil=>intro acc h; !h
   | cons t ts ih =>
    intro acc h
    rw [List.foldl_cons]
    @ih _ ?_
    rw [uN]
    ·!h
    ·rw [h]
     have:=A5 x m (cQ a t) t
     split
     ·rw [uO °]; !this.symm
     ·!this.symm
  !go _ _ (xB _)
def R7 (x:List (List Int)) (kd:KD):Prop:=kd.1.length=kd.2.length/\(∀ q∈kd.1,q.isLeft=false) /\ ∀ a l d,cP kd.1 kd.2 (kS a l)=some d->d=aK (Sh x (x.length - a.length) a l)
##R7.put {x:List (List Int)} {kd:KD} (h:R7 x kd) (a:List Int) (l:Int):R7 x (fO kd.1 kd.2 (kS a l) (aK (Sh x (x.length - a.length) a l))):=by
 @⟨(XY h.1).1,NR h.2.1 rfl,fun b m d e=>?_⟩
 rw [R4 (ks:=[]) h.1] at e
 split at e
 ·rename_i hk
  &⟨rfl,rfl⟩:=aBQ hk
  !(Option.some.inj e).symm
 ·!h.2.2 b m d e
def A6 (x:List (List Int)) (m:Nat) (a:List Int) (l:Int) (acc:List Int) (t:Int):List Int:=zO acc (if t<l then xA (Sh x m (cQ a t) t) else Sh x m (cQ a t) t)
def shares (x:List (List Int)):List Int:=Sh x x.length [] 0
end LL
end
section
namespace LL
open PySem L3 L4 K24
##NS {i:Nat} {f:EF} {ρ:aP} {ds:List D} {d:D} (h1:f (kD ρ)=some d) (h2:ρ[i]? = some (.ow (.lst ds))) (hl:ds.length<16777216):sX (kU i eX (aZ f)) ρ=.nx (ρ.set i (.ow (.lst (ds++[d])))):=by
 have e:kU i eX (aZ f) ρ=some (ρ.set i (.ow (.lst (ds++[d]))),.non):=by
  ~kU aZ
  rw [h2,h1]
  show ((nQ ρ[i]?).bind fun ds=>(eX ds d).map _)=_
  rw [h2]
  show ((eX ds d).map _)=_
  rw [pB hl]
  rfl
 ~sX
 rw [e]
def ev (k:Int):List Int->Int
 | []=>0
 | a::l=>a+k*ev k l
def aBR (s:Int) (l:List Int):List Int:=((l++[0]).zip (0::l)).map fun p:Int×Int=>s*p.1+p.2
def aAT (s t:Int):Nat->List Int
 | 0=>[s]
 | n+1=>aBR (t - n) (aAT s t n)
def aAU (n:Nat):List Int->Nat->List Int->List Int
 | [],_,acc=>acc
 | s::w,d,acc=>aAU n w (d+1) (zO acc (aAT s ((n:Int) - 1 - d) n))
def aBS (x:List (List Int)):List Int:=fd (vals (DV x.length 0 (shares x)) (x.length+1) 0)
section
variable (x:List (List Int))
end
def Zr (w:List Int) (m:Nat):Prop:=∀ (d:Nat) (y:Int),w[d]? = some y->m<d->y=0
##Zr.mono {w:List Int} {m k:Nat} (h:Zr w m) (hk:m<=k):Zr w k:=fun d y e hd=>h d y e °
##Zr.add {a b:List Int} {m:Nat} (ha:Zr a m) (hb:Zr b m):Zr (zO a b) m:=fun d y e hd=>by
 ~zO at e
 rw [List.getElem?_map] at e
 &⟨p,ep,rfl⟩:=Option.map_eq_some_iff.1 e
 &⟨e1,e2⟩:=List.getElem?_zip_eq_some.1 ep
 rw [ha d _ e1 hd,hb d _ e2 hd]
 rfl
##Zr.shl {w:List Int} {m:Nat} (h:Zr w m):Zr (xA w) (m+1):=fun d y e hd=>by
 cases d with
 | zero=>omega
 | succ d =>
  have e:w.dropLast[d]? = some y:=e
  rw [List.getElem?_dropLast] at e
  split at e
  ·!h d y e °
  ·cases e
##Zr.R6 (n m:Nat):Zr (R6 n) m:=fun d y e _=>by
 ~LL.R6 at e
 rw [List.getElem?_replicate] at e
 split at e
 ·cases e; rfl
 ·cases e
##Zr.fold {x:List (List Int)} {m k:Nat} {a:List Int} {l:Int} (h:∀ t,Zr (if t<l then xA (Sh x m (cQ a t) t) else Sh x m (cQ a t) t) k):∀ (ts acc:List Int),Zr acc k->Zr (ts.foldl (A6 x m a l) acc) k
 | [],acc,hz=>hz
 | t::ts,acc,hz=>Zr.fold h ts _ (hz.add (h t))
##vR (x:List (List Int)) (m:Nat) (a:List Int) (l:Int):Sh x (m+1) a l=(bL x a).foldl (A6 x m a l) (R6 x.length):=rfl
##R8 (x:List (List Int)):∀ (m:Nat) (a:List Int) (l:Int),Zr (Sh x m a l) m
 | 0,a,l=>fun d y e hd=>by
  cases d with
  | zero=>omega
  | succ d =>
   have e:(List.replicate (max x.length 1 - 1) (0:Int))[d]? = some y:=e
   rw [List.getElem?_replicate] at e
   split at e
   ·cases e; rfl
   ·cases e
 | m+1,a,l=>by
  rw [vR]
  @Zr.fold (fun t=>?_) _ _ (Zr.R6 _ _)
  split
  ·!(R8 x m _ _).shl
  ·!(R8 x m _ _).mono °
##FB {x:List (List Int)} {a:List Int} {t:Int} (h:t∈bL x a):0<=t:=(iT h).1.1
##fold_congr {α β:Type} {f g:β->α->β}:∀ (l:List α) (b:β),(∀ b,∀ t∈l,f b t=g b t)->l.foldl f b=l.foldl g b
 | [],b,_=>rfl
 | t::l,b,h=>by rw [List.foldl_cons,List.foldl_cons,h b t List.mem_cons_self]; !fold_congr l _ fun b u hu=>h b u (List.mem_cons_of_mem _ hu)
##R9 (x:List (List Int)) (m:Nat) (a:List Int) {l l':Int} (h:l<=0) (h':l'<=0):Sh x m a l=Sh x m a l':=by
 cases m with
 | zero=>rfl
 | succ m =>
  rw [vR,vR]
  @fold_congr _ _ fun acc t ht=>?_
  have:=FB ht
  ~A6
  rw [if_neg °,if_neg °]
##mF {a:List Int} {t u:Int}:u∈cQ a t↔u∈a\/u=t:=by
 ~cQ
 rw [(sortI_perm (a++[t])).mem_iff]
 simp
##xC (a:List Int) (t:Int):(cQ a t).length=a.length+1:=by
 ~cQ
 rw [(sortI_perm (a++[t])).length_eq]
 simp
##II:∀ a b:Nat,a+b=(a ||| b)+(a &&& b):=by
 intro a
 induction a using Nat.strongRecOn with
 | ind a ih =>
  intro b
  by_cases h:a=0
  ·subst h; simp
  ·have e:=ih (a / 2) ° (b / 2)
   have d1:(a ||| b) / 2=(a / 2 ||| b / 2):=Nat.or_div_two ..
   have d3:(a &&& b) / 2=(a / 2 &&& b / 2):=Nat.and_div_two ..
   have m1:(a ||| b) % 2=(a % 2 ||| b % 2):=Nat.or_mod_two_pow (n:=1)
   have m3:(a &&& b) % 2=(a % 2 &&& b % 2):=Nat.and_mod_two_pow (n:=1)
   have c:a % 2+b % 2=(a % 2 ||| b % 2)+(a % 2 &&& b % 2):=by
    rcases Nat.mod_two_eq_zero_or_one a with p | p<;>rcases Nat.mod_two_eq_zero_or_one b with q | q<;>rw [p,q]<;>decide
   omega
##XZ {S b:Nat} (h:S.testBit b=false):2 ^ b+S=(2 ^ b ||| S):=by
 have e:(2 ^ b &&& S)=0:=by
  apply Nat.eq_of_testBit_eq
  intro i
  rw [Nat.testBit_and,Nat.testBit_two_pow,Nat.zero_testBit]
  by_cases hi:b=i
  ·subst hi; simp [h]
  ·simp [hi]
 rw [II,e,Nat.add_zero]
##aBT (S b i:Nat):(S ||| 2 ^ b).testBit i=(S.testBit i||decide (b=i)):=by rw [Nat.testBit_or,Nat.testBit_two_pow]
##X0 {M S:Nat}:(M &&& S=M) ↔ ∀ i,M.testBit i=true->S.testBit i=true:=by
 constructor
 ·intro h i hi
  have:=congrArg (fun z=>z.testBit i) h
  simp only [Nat.testBit_and,hi,Bool.true_and] at this
  !this
 ·intro h
  apply Nat.eq_of_testBit_eq
  intro i
  rw [Nat.testBit_and]
  cases e:M.testBit i with
  | false=>rfl
  | true=>rw [h i e]; rfl
##aDs {S b n:Nat} (h:S<2 ^ n) (hb:b<n):(S ||| 2 ^ b)<2 ^ n:=Nat.or_lt_two_pow h (Nat.pow_lt_pow_right § hb)
def NT:List Int->Nat
 | []=>0
 | a::r=>2 ^ a.toNat ||| NT r
##C7 {i:Nat}:∀ {r:List Int},(∀ a∈r,0<=a)->((NT r).testBit i=true↔(i:Int)∈r)
 | [],_=>by simp [NT]
 | a::r,h=>by
  have ih:=C7 (i:=i) (r:=r) fun b hb=>h b (List.mem_cons_of_mem _ hb)
  have h0:=h a List.mem_cons_self
  rw [NT,Nat.testBit_or,Nat.testBit_two_pow,Bool.or_eq_true,ih,List.mem_cons,decide_eq_true_eq]
  constructor
  ·rintro (e | e)
   ·!.inl °
   ·!.inr e
  ·rintro (e | e)
   ·!.inl °
   ·!.inr e
##LG:∀ {r:List Int},(∀ a∈r,0<=a)->r.Nodup->(r.map fun a=>(2:Int) ^ a.toNat).sum=(NT r:Int)
 | [],_,_=>rfl
 | a::r,h,nd=>by
  have h':∀ b∈r,0<=b:=fun b hb=>h b (List.mem_cons_of_mem _ hb)
  have ih:=LG h' (List.nodup_cons.1 nd).2
  have h0:=h a List.mem_cons_self
  have hb:(NT r).testBit a.toNat=false:=by
   cases e:(NT r).testBit a.toNat with
   | false=>rfl
   | true =>
    have:=(C7 h').1 e
    rw [show ((a.toNat:Nat):Int)=a by omega] at this
    !absurd this (List.nodup_cons.1 nd).1
  rw [List.map_cons,List.sum_cons,ih,NT,<- XZ hb]
  push_cast
  rfl
section
variable (x:List (List Int))
def things (S:Nat):List Int:=(bG 0 x.length).filter fun t=>S.testBit t.toNat
def Mk (b:Nat):Nat:=NT (row x b)
def LH (b S:Nat):Bool:=!S.testBit b&&decide (Mk x b &&& S=Mk x b)
end
section
variable {x:List (List Int)}
##gG {S:Nat} {t:Int}:t∈things x S↔(0<=t/\t<(x.length:Int))/\S.testBit t.toNat=true:=by
 ~things
 rw [List.mem_filter,cB]
 constructor
 ·rintro ⟨h1,h2⟩; !⟨by omega,h2⟩
 ·rintro ⟨h1,h2⟩; !⟨by omega,h2⟩
##FC {a b:List Int} (h:∀ t,t∈a↔t∈b):bL x a=bL x b:=by
 have hc:∀ t,a.contains t=b.contains t:=fun t=>by
  rw [Bool.eq_iff_iff]
  simp [h t]
 ~bL
 simp only [hc]
##SA (hx:Ord.Rows x) {b i:Nat} (hb:b<x.length):(Mk x b).testBit i=true↔(i:Int)∈row x b:=by
 @C7 fun a ha=>?_
 have e:row x b=x[b]:=by ~row; simp [hb]
 rw [e] at ha
 &⟨c,rfl,_⟩:=(Ord.RT hx (List.getElem?_eq_getElem hb)).1 ha
 omega
##aBU (hx:Ord.Rows x) {b:Nat} (hb:b<x.length) {a:Int} (h:a∈row x b):0<=a/\a<(x.length:Int):=by
 have e:row x b=x[b]:=by ~row; simp [hb]
 rw [e] at h
 !hx.rng b _ (List.getElem?_eq_getElem hb) a h
##iV {a:List Int} {t:Int}:t∈bL x a↔(0<=t/\t<(x.length:Int))/\t∉a /\ ∀ l∈row x t,l∈a:=by
 ~bL
 rw [List.mem_filter,List.mem_filter,cB,List.all_eq_true]
 simp only [Bool.not_eq_true',List.contains_eq_mem,decide_eq_false_iff_not,decide_eq_true_eq]
 constructor
 ·rintro ⟨⟨h1,h2⟩,h3⟩; !⟨by omega,h2,h3⟩
 ·rintro ⟨h1,h2,h3⟩; !⟨⟨by omega,h2⟩,h3⟩
##X1 (hx:Ord.Rows x) {b S:Nat} (hb:b<x.length):LH x b S=true↔(b:Int)∈bL x (things x S):=by
 ~LH
 rw [Bool.and_eq_true,decide_eq_true_eq,X0,iV]
 constructor
 ·rintro ⟨h1,h2⟩
  @⟨by omega,fun h=>?_,fun l hl=>?_⟩
  ·have:=(gG.1 h).2
   rw [Int.toNat_natCast] at this
   rw [this] at h1
   cases h1
  ·have r:=aBU hx hb hl
   @gG.2 ⟨r,h2 _ ((SA hx hb).2 ?_)⟩
   rw [show ((l.toNat:Nat):Int)=l by omega]
   !hl
 ·rintro ⟨_,h1,h2⟩
  @⟨?_,fun i hi=>?_⟩
  ·cases e:S.testBit b with
   | false=>rfl
   | true=>!absurd (gG.2 ⟨by omega,by rw [Int.toNat_natCast]; !e⟩) h1
  ·have:=(gG.1 (h2 i ((SA hx hb).1 hi))).2
   rwa [Int.toNat_natCast] at this
##A7 (S:Nat):(things x S).Nodup:=List.Pairwise.filter _ (C4 x.length)
##len_eq {a b:List Int} (ha:a.Nodup) (hb:b.Nodup) (h:∀ t,t∈a↔t∈b):a.length=b.length :=
 Nat.le_antisymm (Ord.eJ a b ha fun t ht=>(h t).1 ht) (Ord.eJ b a hb fun t ht=>(h t).2 ht)
##A8 {S b:Nat} (hb:b<x.length) (t:Int):t∈things x (S ||| 2 ^ b)↔t∈cQ (things x S) b:=by
 rw [mF,gG,gG,aBT,Bool.or_eq_true,decide_eq_true_eq]
 constructor
 ·rintro ⟨h1,h2 | h2⟩
  ·!.inl ⟨h1,h2⟩
  ·!.inr °
 ·rintro (⟨h1,h2⟩ | h)
  ·!⟨h1,.inl h2⟩
  ·subst h
   !⟨by omega,.inr °⟩
##IJ (S:Nat):(things x S).length<=x.length:=by
 have:=List.length_filter_le (fun t:Int=>S.testBit t.toNat) (bG 0 x.length)
 rwa [aQ] at this
##n5 {S b:Nat} (hb:b<x.length) (h:S.testBit b=false):(things x (S ||| 2 ^ b)).length=(things x S).length+1:=by
 rw [<- xC (things x S) b]
 @len_eq (A7 _) ?_ (A8 hb)
 ~cQ
 @(sortI_perm _).nodup_iff.2 (List.nodup_append.2 ⟨A7 S,by simp,fun u hu v hv e=>?_⟩)
 rw [List.mem_singleton] at hv
 subst hv
 subst e
 have:=(gG.1 hu).2
 rw [Int.toNat_natCast,h] at this
 cases this
##SC (a:List Int):(bL x a).Nodup:=List.Pairwise.filter _ (List.Pairwise.filter _ (C4 x.length))
end
abbrev Tab:=List (Nat×Int)
def kZ (A:Tab) (h:Nat):Option Int:=(A.find? fun q=>decide (q.1=h)).map (·.2)
def zP (A:Tab) (h:Nat) (v:Int):Tab:=if A.any (fun q=>decide (q.1=h))=true then A.map fun q=>if q.1=h then (q.1,v) else q else A++[(h,v)]
def kN (h:Nat):vO:=.inl (.inl (h:Int))
def kdT (A:Tab):KD:=(A.map fun q=>kN q.1,A.map fun q=>D.int q.2)
##C8 {a b:Nat}:kN a=kN b↔a=b:=by
 ~kN
 constructor
 ·intro h
  simp only [Sum.inl.injEq] at h
  omega
 ·intro h; rw [h]
##SD (A:Tab) (h:Nat):cP (kdT A).1 (kdT A).2 (kN h)=(kZ A h).map D.int:=by
 ~kdT cP kZ
 induction A with
 | nil=>rfl
 | cons q A ih =>
  simp only [List.map_cons,List.zip_cons_cons,List.find?_cons]
  by_cases e:q.1=h
  ·simp [e]
  ·have e':¬ kN q.1=kN h:=fun z=>e (C8.1 z)
   simp only [decide_eq_false e,decide_eq_false e']
   !ih
##aDt (A:Tab) (h:Nat) (v:Int):fO (kdT A).1 (kdT A).2 (kN h) (.int v)=kdT (zP A h v):=by
 have e:(kdT A).1.any (fun q=>decide (q=kN h))=A.any fun q=>decide (q.1=h):=by
  ~kdT
  rw [List.any_map]
  congr 1
  funext q
  !decide_eq_decide.2 C8
 ~fO zP
 rw [e]
 split
 ·~kdT
  @Prod.ext ?_ ?_
  ·simp only [List.map_map]
   @List.map_congr_left fun q _=>?_
   simp only [Function.comp]
   split<;>rfl
  ·simp only [List.map_map]
   have:((A.map fun q=>kN q.1).zip (A.map fun q=>D.int q.2))=A.map fun q=>(kN q.1,D.int q.2):=by
    rw [List.zip_map']
   rw [this,List.map_map]
   @List.map_congr_left fun q _=>?_
   simp only [Function.comp]
   by_cases z:q.1=h
   ·rw [if_pos (C8.2 z),if_pos z]
   ·rw [if_neg (fun y=>z (C8.1 y)),if_neg z]
 ·~kdT
  simp
##IK (A:Tab) (h:Nat):kindB (kdT A).1 (kN h)=true:=by
 ~kindB kdT
 rw [List.all_map,List.all_eq_true]
 intro q _
 rfl
def tot (A:Tab) (V:Nat->Int):Int:=(A.map fun q=>q.2*V q.1).sum
structure LI (n:Nat) (A:Tab):Prop where
 nd:(A.map (·.1)).Nodup
 lt:∀ q∈A,q.1<2 ^ n
##get_none {A:Tab} {h:Nat} (e:A.any (fun q=>decide (q.1=h))=false):kZ A h=none:=by
 ~kZ
 rw [List.find?_eq_none.2,Option.map_none]
 intro q hq
 have:=List.any_eq_false.1 e q hq
 simpa using this
##LI.put {n:Nat} {A:Tab} (o:LI n A) {h:Nat} (hh:h<2 ^ n) (v:Int):LI n (zP A h v):=by
 ~zP
 split
 ·@⟨?_,fun q hq=>?_⟩
  ·rw [List.map_map]
   have:(A.map ((fun q:Nat×Int=>q.1)∘fun q=>if q.1=h then (q.1,v) else q))=A.map (·.1):=List.map_congr_left fun q _=>by simp only [Function.comp]; split<;>rfl
   rw [this]
   !o.nd
  ·&⟨p,hp,rfl⟩:=List.mem_map.1 hq
   split
   ·!o.lt p hp
   ·!o.lt p hp
 ·rename_i hc
  @⟨?_,fun q hq=>?_⟩
  ·rw [List.map_append,List.nodup_append]
   @⟨o.nd,by simp,fun a ha b hb e=>?_⟩
   &⟨q,hq,rfl⟩:=List.mem_map.1 ha
   simp only [List.map_nil,List.map_cons,List.mem_singleton] at hb
   !hc (List.any_eq_true.2 ⟨q,hq,by simp [e,hb]⟩)
  ·rcases List.mem_append.1 hq with z | z
   ·!o.lt q z
   ·rw [List.mem_singleton.1 z]; !hh
##X2 {A:Tab} (V:Nat->Int) (h:Nat) (w:Int) (nd:(A.map (·.1)).Nodup):tot (zP A h ((kZ A h).getD 0+w)) V=tot A V+w*V h:=by
 ~zP
 split
 ·rename_i hc
  have go:∀ (A:Tab),(A.map (·.1)).Nodup->A.any (fun q=>decide (q.1=h))=true -> ∀ u,u=(kZ A h).getD 0+w->tot (A.map fun q=>if q.1=h then (q.1,u) else q) V=tot A V+w*V h:=by
   intro A
   induction A with
   | nil=>intro _ hc; cases hc
   | cons q A ih =>
    intro nd hc u hu
    rw [List.map_cons,List.nodup_cons] at nd
    ~tot
    rw [List.map_cons,List.map_cons,List.sum_cons,List.map_cons,List.sum_cons]
    by_cases e:q.1=h
    ·have e2:A.map (fun q=>if q.1=h then (q.1,u) else q)=A:=by
      conv=>rhs; rw [<- List.map_id A]
      @List.map_congr_left fun p hp=>?_
      rw [if_neg]
      ·rfl
      ·intro z
       !nd.1 (List.mem_map.2 ⟨p,hp,by rw [z,e]⟩)
     have e3:kZ (q::A) h=some q.2:=by ~kZ; simp [e]
     rw [e3] at hu
     rw [e2,if_pos e,hu,e]
     simp only [Option.getD_some]
     rw [Int.add_mul]
     omega
    ·have e3:kZ (q::A) h=kZ A h:=by ~kZ; simp [e]
     rw [e3] at hu
     have hc':A.any (fun q=>decide (q.1=h))=true:=by simpa [List.any_cons,e] using hc
     have:=ih nd.2 hc' u hu
     ~tot at this
     rw [if_neg e,this]
     omega
  !go A nd hc _ rfl
 ·rename_i hc
  have hc:A.any (fun q=>decide (q.1=h))=false:=Bool.eq_false_iff.2 hc
  rw [get_none hc]
  ~tot
  rw [List.map_append,List.sum_append]
  simp
##X3 {n:Nat} {A:Tab} (o:LI n A):A.length<=2 ^ n:=by
 have h:=Ord.eJ (A.map fun q=>(q.1:Int)) (bG 0 (2 ^ n)) ?_ ?_
 ·rwa [List.length_map,aQ] at h
 ·have e:A.map (fun q=>(q.1:Int))=(A.map (·.1)).map fun a:Nat=>(a:Int):=by rw [List.map_map]; rfl
  rw [e]
  !List.Pairwise.map _ (fun a b hab z=>hab °) o.nd
 ·intro t ht
  &⟨q,hq,rfl⟩:=List.mem_map.1 ht
  have:=o.lt q hq
  @cB.2 ⟨by omega,?_⟩
  rw [Int.zero_add]
  !Int.ofNat_lt.2 this
section
variable (x:List (List Int))
end
section
variable {x:List (List Int)}
##FD {S:Nat} (hS:S<2 ^ x.length):(things x S).length=x.length↔S=2 ^ x.length - 1:=by
 constructor
 ·intro h
  apply Nat.eq_of_testBit_eq
  intro i
  rw [Nat.testBit_two_pow_sub_one]
  by_cases hi:i<x.length
  ·rw [decide_eq_true hi]
   cases e:S.testBit i with
   | true=>rfl
   | false =>
    have:=n5 hi e
    have:=IJ (x:=x) (S ||| 2 ^ i)
    omega
  ·rw [decide_eq_false hi]
   !Nat.testBit_lt_two_pow (Nat.lt_of_lt_of_le hS (Nat.pow_le_pow_right § °))
 ·intro h
  subst h
  have e:things x (2 ^ x.length - 1)=bG 0 x.length:=by
   ~things
   rw [List.filter_eq_self]
   intro t ht
   have:=cB.1 ht
   rw [Nat.testBit_two_pow_sub_one,decide_eq_true °]
  rw [e,aQ]
##uP:things x 0=[]:=by
 ~things
 rw [List.filter_eq_nil_iff]
 intro t _
 simp
end
##n6 {c:Int->Int->Bool} {g:Int->Int->D} {i j:Int} (h:c i j=true):lC c g (.int i) (.int j)=some (g i j):=if_pos h
##LJ (a b:Nat):nnC (a:Int) (b:Int)=true:=by ~nnC; rw [decide_eq_true °,decide_eq_true °]; rfl
##FE (a b:Nat):nX (.int a) (.int b)=some (.int ((a &&& b:Nat):Int)):=by
 @(n6 (LJ a b)).trans ?_
 rw [Int.toNat_natCast,Int.toNat_natCast]
##X4 (a b:Nat):HY (.int a) (.int b)=some (.int ((a ||| b:Nat):Int)):=by
 @(n6 (LJ a b)).trans ?_
 rw [Int.toNat_natCast,Int.toNat_natCast]
##X5 (a b:Nat):HX (.int a) (.int b)=some (.int ((a >>> b:Nat):Int)):=by
 @(n6 (decide_eq_true (show (0:Int)<=(b:Int) by omega))).trans ?_
 rw [Int.toNat_natCast,Nat.shiftRight_eq_div_pow]
 congr 2
##LK {a b:Nat} (ha:a<18446744073709551616) (hb:b<=1000000):wK (.int a) (.int b)=some (.int ((a <<< b:Nat):Int)):=by
 @(n6 (by
  show (decide (0<=(b:Int))&&decide ((b:Int).natAbs<=1000000)&&decide ((a:Int).natAbs<18446744073709551616))=true
  rw [decide_eq_true °,decide_eq_true °,decide_eq_true °]
  rfl)).trans ?_
 rw [Int.toNat_natCast,Nat.shiftLeft_eq]
 congr 2
##LM (b:Nat):(1 <<< b:Nat)=2 ^ b:=by rw [Nat.shiftLeft_eq,Nat.one_mul]
##X6 (a b:Nat):(a >>> b &&& 1)=if a.testBit b=true then 1 else 0:=by
 rw [Nat.and_one_is_mod,Nat.shiftRight_eq_div_pow,Nat.testBit_eq_decide_div_mod_eq]
 by_cases h:a / 2 ^ b % 2=1
 ·rw [decide_eq_true h,if_pos rfl]; !h
 ·rw [decide_eq_false h,if_neg §]; omega
##aIZ {f g:EF} {ρ:bR} {h b:Nat} (hf:f ρ=some (.int h)) (hg:g ρ=some (.int b)):aC nX (aC HX f g) (eC (.int 1)) ρ=some (.int (if h.testBit b=true then 1 else 0)):=by
 @aM (x:=.int ((h >>> b:Nat):Int)) (y:=.int ((1:Nat):Int)) (aM hf hg (X5 h b)) rfl ?_
 rw [FE,X6]
 split<;>rfl
section
variable {x:List (List Int)}
def NU (x:List (List Int)):List Int:=x.map fun r=>(NT r:Int)
##SE (hx:Ord.Rows x) (hn:x.length<=9):iU [aJ x]=.ok (aK (NU x)):=by
 ~iU NU
 have e5:aK (x.map fun r=>(NT r:Int))=.lst (x.map fun r=>D.int (NT r:Int)):=by ~aK; rw [List.map_map]; rfl
 rw [e5]
 @jP rfl (kH (mE (x.map tupI) rfl (by rw [List.length_map]; omega) (iR tupI (fun r=>.int (NT r:Int)) x fun r hr=>⟨[some (tupI r)],rfl,?_⟩)))
 &⟨b,hb,rfl⟩:=List.getElem_of_mem hr
 have hnn:∀ a∈x[b],0<=a/\a<(x.length:Int):=hx.rng b _ (List.getElem?_eq_getElem hb)
 have hup:=hx.up b _ (List.getElem?_eq_getElem hb)
 have hnd:(x[b]).Nodup:=hup.imp fun h=>by omega
 have hsh:=Ord.Rows.short hx hr
 rw [<- LG (fun a ha=>(hnn a ha).1) hnd]
 @dJ (x:=aK ((x[b]).map fun a:Int=>(2:Int) ^ a.toNat)) ?_ sum_ints
 have e6:aK ((x[b]).map fun a=>(2:Int) ^ a.toNat)=.lst ((x[b]).map fun a=>D.int ((2:Int) ^ a.toNat)):=by ~aK; rw [List.map_map]; rfl
 rw [e6]
 @mE ((x[b]).map D.int) rfl (by rw [List.length_map]; omega) (iR D.int (fun a=>.int ((2:Int) ^ a.toNat)) _ fun a ha=>⟨[some (.int a)],rfl,?_⟩)
 have r:=hnn a ha
 @aM (x:=.int 1) (y:=.int a) rfl rfl ?_
 @(n6 (by
  show (decide (0<=a)&&decide (a.natAbs<=1000000)&&decide ((1:Int).natAbs<18446744073709551616))=true
  rw [decide_eq_true r.1,decide_eq_true °]
  rfl)).trans ?_
 rw [Int.one_mul]
##aBV {b:Nat} (hb:b<x.length):aY (aK (NU x)) (.int b)=some (.int (Mk x b:Int)):=by
 ~aK
 rw [K8]
 @lF ?_
 ~NU
 rw [List.getElem?_map,List.getElem?_eq_getElem hb]
 have e:row x b=x[b]:=by ~row; simp [hb]
 ~Mk
 rw [e]
 rfl
##aBW (h:Nat):nW (.int (h:Int))=some (kN h):=rfl
##aDu (A:Tab) (q:Nat->Obj->Prop) (h:Nat):RC (.dF q (kdT A).1 (kdT A).2) (.int (h:Int)) (.int 0)=some (.int ((kZ A h).getD 0)):=by
 show ((nW (.int (h:Int))).bind fun k=>if kindB (kdT A).1 k=true then some ((cP (kdT A).1 (kdT A).2 k).getD (.int 0)) else none)=_
 rw [aBW,Option.bind_some,if_pos (IK A h),SD]
 cases kZ A h<;>rfl
##aDv {A:Tab} {q:Nat->Obj->Prop} {h:Nat} {v:Int} (e:kZ A h=some v):pS (.dF q (kdT A).1 (kdT A).2) (.int (h:Int))=some (.int v):=by
 show ((nW (.int (h:Int))).bind fun k=>if kindB (kdT A).1 k=true then cP (kdT A).1 (kdT A).2 k else none)=_
 rw [aBW,Option.bind_some,if_pos (IK A h),SD,e]
 rfl
def dT (q:Nat->Obj->Prop) (A:Tab):D:=.dF q (kdT A).1 (kdT A).2
##aBX (A:Tab) (q:Nat->Obj->Prop):RD (dT q A)=some (A.map fun p=>D.int (p.1:Int)):=by
 show some (((A.map fun q=>kN q.1)).map dKX)=_
 rw [List.map_map]
 rfl
##get_mem {A:Tab} (nd:(A.map (·.1)).Nodup) {p:Nat×Int} (hp:p∈A):kZ A p.1=some p.2:=by
 induction A with
 | nil=>cases hp
 | cons q A ih =>
  rw [List.map_cons,List.nodup_cons] at nd
  ~kZ
  rw [List.find?_cons]
  by_cases e:q.1=p.1
  ·rcases List.mem_cons.1 hp with z | z
   ·subst z; simp
   ·!absurd (List.mem_map.2 ⟨p,z,e.symm⟩) nd.1
  ·rcases List.mem_cons.1 hp with z | z
   ·!absurd (by rw [z]) e
   ·rw [decide_eq_false e]
    !ih nd.2 z
end
end LL
end
section
namespace K25
open PySem L3 L4
def vC:eT:=bK 3 2
  (aH (aN 2 (bF aV (aA (aB 0) aE)))
  (aU (bF u7 (aA (bJ 1 [0,2,1] (aR (aA (aB 2) aE)) (g1 0) cH (aC mulM (aC aY (aB 1) (aB 0)) (aG LL.qL (aA (aC fE (aC fE (aC bO (aB 3) (aB 2)) (eC (.int 1))) (aB 0)) (aA (aB 2) aE))))) aE))))
def C9:eT:=bK 2 2
  (aU (bF u7 (aA (bJ 1 [0,1] (aR (aA (bF aV (aA (aB 0) aE)) aE)) (g1 0) cH (aC mulM (aC aY (aB 1) (aB 0)) (aG LL.qL (aA (aB 2) (aA (aB 0) aE))))) aE)))
def NV:eT:=bK 4 2
  (aH (aN 2 (eC (.int 0)))
  (aH (dE (XB (aA (aB 0) aE)) (lE 3)
   (aN 2 (aC bO (aC mulM (aB 2) (aB 1)) (aB 3))))
  (aU (aB 2))))
def zQ:eT:=bK 3 1
  (aH (aN 1 (eC (.int 1)))
  (aH (dE (aR (aA (aB 0) aE)) (lE 2)
   (aN 1 (aC mulM (aB 1) (aC bO (aB 2) (eC (.int 1))))))
  (aU (aB 1))))
def zR:eT:=bK 7 5
  (aH (aN 5 (aG LL.IH (aA (aB 0) (aA (aB 4) aE))))
  (aH (eV (u4 (hZ (tV (nP "int" (aB 5)))) (tV (nP "bool" (aB 5))))
   (aU (eC (.bl false)))
   bY)
  (aH (aN 6 (eC (.int 1)))
  (aH (eV (tV (aC tL (bF aV (aA (aB 0) aE)) (eC (.int 0))))
   (aN 6 (aG vC (aA (aB 1) (aA (aB 4) aE))))
   bY)
  (aH (eV (u4 (tV (aC KU (aB 5) (aB 6))) (tV (aC KU (aG C9 (aA (aB 2) (aA (aB 4) aE))) (aB 5))))
   (aU (eC (.bl false)))
   bY)
  (aU (aC kT (aG NV (aA (aB 3) (aA (aB 4) aE))) (aC mulM (aB 5) (aG zQ (aA (bF aV (aA (aB 0) aE)) aE))))))))))
def rV:eT:=bK 10 1
  (aH (aN 1 (aG LL.pA (aA (aB 0) (aA (eC (.int 0)) (aA (eC (.int 9)) (aA (eC (.int 100003)) aE))))))
  (aH (aN 2 (bF aV (aA (aB 1) aE)))
  (aH (aN 3 (aG LL.eE (aA (aB 1) aE)))
  (aH (aN 4 (aG LL.rX (aA (aB 1) aE)))
  (aH (aN 5 (aG LL.C5 (aA (aB 1) aE)))
  (aH (eV (u4 (hZ (tV (aG LL.tT (aA (aB 3) (aA (bF aAP (aA (eC (.int 1)) (aA (aB 2) aE))) aE))))) (u4 (hZ (tV (aG LL.tT (aA (aB 4) (aA (aC bO (aB 2) (eC (.int 1))) aE))))) (hZ (tV (aG LL.tT (aA (aB 5) (aA (aC bO (aB 2) (eC (.int 1))) aE)))))))
   (aU (eC (.bl false)))
   bY)
  (aH (eV (u4 (tV (aC W2 (bF aAR (aA (aB 3) aE)) (eC (.int 0)))) (u4 (tV (aC W2 (bF aAR (aA (aB 4) aE)) (eC (.int 0)))) (u4 (tV (aC KU (bF aDg (aA (aB 3) aE)) (aC aY (aB 4) (mW (eC (.int 1)))))) (tV (aC KU (aC aY (aB 5) (mW (eC (.int 1)))) (aC aY (aB 4) (mW (eC (.int 1)))))))))
   (aU (eC (.bl false)))
   bY)
  (aH (aN 6 (aC dI (aC aY (aG LL.bX (aA (aG LL.cM (aA (aB 0) (aA (eC (.int 2)) aE))) (aA (eC (.int 1)) (aA (eC (.int 200017)) aE)))) (eC (.int 0))) (eC (.int 5))))
  (aH (dE (dD (dG (aA (aB 6) (aA (aG LL.NQ (aA (aB 0) (aA (eC (.int 3)) (aA (eC (.int 300007)) aE)))) aE)))) (lE 7)
   (eV (hZ (tV (aG zR (aA (aB 1) (aA (aB 3) (aA (aB 4) (aA (aB 5) (aA (aB 7) aE))))))))
    (aU (eC (.bl false)))
    bY))
  (aH (eV (tV (aC kT (aB 2) (eC (.int 0))))
   (aU (aC qE (aB 4) (dG (aA (eC (.int 1)) aE))))
   bY)
  (aH (iA 8 (dL (aA (eC (.int 0)) aE)))
  (aH (dE (aR (aA (eC (.int 1)) (aA (aC bO (aB 2) (eC (.int 1))) aE))) (lE 9)
   (sX (kU 8 eX (aZ (bF u7 (aA (bJ 1 [3,2,9] (aR (aA (aB 9) aE)) (g1 0) cH (aC mulM (aC aY (aB 1) (aB 0)) (aG LL.qL (aA (aC fE (aC fE (aB 2) (eC (.int 1))) (aB 0)) (aA (aC fE (aC fE (aB 3) (eC (.int 1))) (aB 0)) aE))))) aE))))))
  (aU (aC aIR (bF rM (aA (aB 4) aE)) (aB 8)))))))))))))))
end K25
end
section
namespace K25
open PySem L3 L4 K24 LL
section
variable {x:List (List Int)}
def aDw (x:List (List Int)):List Int:=aAU x.length (shares x) 0 (List.replicate (x.length+1) 0)
end
abbrev st (ns:List Int) (x:List (List Int)) (nr:Int) (v7 v8 v9:Sv):aP:=[.ro (.jW ns),.ro (aJ x),.ro (.int x.length),.ro (tupI (shares x)),.ro (tupI (aBS x)),.ro (tupI (aDw x)),.ro (.int nr),v7,v8,v9]
end K25
end
section
namespace LL
open PySem L3 L4 K24
section
variable (x:List (List Int))
def cnt:Nat->List Int->Int
 | 0,_=>1
 | m+1,a=>((bL x a).map fun t=>cnt m (cQ a t)).sum
def gls:Nat->List (List Int)
 | 0=>[[]]
 | i+1=>(gls i).flatMap fun w=>(bL x w).map fun t=>w++[t]
end
section
variable {x:List (List Int)}
##FF:∀ {a b:List Int},a.length=b.length->(zO a b).sum=a.sum+b.sum
 | [],[],_=>rfl
 | [],_::_,h=>by simp at h
 | _::_,[],h=>by simp at h
 | y::a,z::b,h=>by
  have ih:=FF (a:=a) (b:=b) (¥h)
  show y+z+(zO a b).sum=_
  rw [ih,List.sum_cons,List.sum_cons]
  omega
##X7 {w:List Int} (h:w.getLast? = some 0):(xA w).sum=w.sum:=by
 &⟨l,hl⟩:=List.getLast?_eq_some_iff.1 h
 subst hl
 ~xA
 simp
##IL:∀ (m:Nat) (a:List Int) (l:Int),a.length+m=x.length->(l=-1\/l∈a)->(Sh x m a l).sum=cnt x m a
 | 0,a,l,_,_=>by
  show (R5 x.length).sum=1
  ~R5
  rw [List.sum_cons]
  have:(List.replicate (max x.length 1 - 1) (0:Int)).sum=0:=by simp
  rw [this]
  rfl
 | m+1,a,l,hl,hm=>by
  rw [vR]
  have go:∀ (ts acc:List Int),(∀ t∈ts,t∈bL x a)->acc.length=max x.length 1->(ts.foldl (A6 x m a l) acc).sum=acc.sum+(ts.map fun t=>cnt x m (cQ a t)).sum:=by
   intro ts
   induction ts with
   | nil=>intro acc _ _; simp
   | cons t ts ih =>
    intro acc ht h
    have hS:=A5 x m (cQ a t) t
    have tr:=ht t List.mem_cons_self
    have t0:=FB tr
    have tn:=(iT tr).2
    have hlen:acc.length=(if t<l then xA (Sh x m (cQ a t) t) else Sh x m (cQ a t) t).length:=by
     rw [h]
     split
     ·rw [uO °]; !hS.symm
     ·!hS.symm
    have es:(if t<l then xA (Sh x m (cQ a t) t) else Sh x m (cQ a t) t).sum=cnt x m (cQ a t):=by
     rw [<- IL m (cQ a t) t (by rw [xC]; omega) (.inr (mF.2 (.inr rfl)))]
     split
     ·rename_i h1
      @X7 ?_
      have la:l∈a:=hm.resolve_left °
      have a1:1<=a.length:=by cases a with
       | nil=>cases la
       | cons _ _=>simp
      have hz:=R8 x m (cQ a t) t
      rw [List.getLast?_eq_getElem?,hS]
      have hlt:max x.length 1 - 1<(Sh x m (cQ a t) t).length:=by omega
      rw [List.getElem?_eq_getElem hlt]
      congr 1
      !hz _ _ (List.getElem?_eq_getElem hlt) °
     ·rfl
    rw [List.foldl_cons,ih _ (fun u hu=>ht u (List.mem_cons_of_mem _ hu)) (by ~A6; rw [uN hlen,h]),List.map_cons,List.sum_cons]
    ~A6
    rw [FF hlen,es]
    omega
  have:=go (bL x a) (R6 x.length) (fun t h=>h) (xB _)
  rw [this]
  have e0:(R6 x.length).sum=0:=by ~R6; simp
  rw [e0,Int.zero_add]
  rfl
##tU:∀ (m:Nat) {a b:List Int},(∀ t,t∈a↔t∈b)->cnt x m a=cnt x m b
 | 0,a,b,_=>rfl
 | m+1,a,b,h=>by
  show ((bL x a).map fun t=>cnt x m (cQ a t)).sum=((bL x b).map fun t=>cnt x m (cQ b t)).sum
  rw [FC h]
  congr 1
  @List.map_congr_left fun t _=>tU m fun u=>?_
  rw [mF,mF,h u]
##LN:∀ (i r:Nat),((gls x i).map (cnt x r)).sum=cnt x (i+r) []
 | 0,r=>by simp [gls]
 | i+1,r=>by
  have ih:=LN i (r+1)
  rw [show i+1+r=i+(r+1) by omega,<- ih]
  have go:∀ L:List (List Int),((L.flatMap fun w=>(bL x w).map fun t=>w++[t]).map (cnt x r)).sum=(L.map (cnt x (r+1))).sum:=by
   intro L
   induction L with
   | nil=>rfl
   | cons w L ihL =>
    rw [List.flatMap_cons,List.map_append,List.sum_append,ihL,List.map_cons,List.sum_cons,List.map_map]
    congr 1
    show _=((bL x w).map fun t=>cnt x r (cQ w t)).sum
    congr 1
    @List.map_congr_left fun t _=>tU r fun u=>?_
    rw [mF]
    simp
  !go _
##LO:((gls x x.length).length:Int)=(shares x).sum:=by
 have h:=LN (x:=x) x.length 0
 have e:((gls x x.length).map (cnt x 0)).sum=((gls x x.length).length:Int):=by
  have:∀ L:List (List Int),(L.map (cnt x 0)).sum=(L.length:Int):=by
   intro L
   induction L with
   | nil=>rfl
   | cons w L ih =>
    rw [List.map_cons,List.sum_cons,ih,List.length_cons]
    show (1:Int)+_=_
    omega
  !this _
 rw [<- e,h,Nat.add_zero,<- IL x.length [] (-1) (by simp) (.inl rfl)]
 ~shares
 rw [R9 x x.length [] (l:=-1) (l':=0) § §]
end
##A9 {α:Type} (c:Int) (f:α->Int):∀ L:List α,(L.map fun a=>c*f a).sum=c*(L.map f).sum
 | []=>by simp
 | a::L=>by
  have ih:=A9 c f L
  simp only [List.map_cons,List.sum_cons,ih,Int.mul_add]
##FG {α:Type} (p:α->Bool) (f:α->Int):∀ L:List α,((L.filter p).map f).sum=(L.map fun a=>if p a=true then f a else 0).sum
 | []=>rfl
 | a::L=>by
  have ih:=FG p f L
  by_cases h:p a=true
  ·rw [List.filter_cons_of_pos h,List.map_cons,List.sum_cons,List.map_cons,List.sum_cons,ih,if_pos h]
  ·rw [List.filter_cons_of_neg h,List.map_cons,List.sum_cons,ih,if_neg h,Int.zero_add]
section
variable (x:List (List Int))
end
section
variable {x:List (List Int)}
end
section
variable {x:List (List Int)}
##j5:∀ {i:Nat} {w:List Int},w∈gls x i->w.length=i /\ ∀ u t v,w=u++t::v->t∈bL x u
 | 0,w,h=>by
  have:w=[]:=by simpa [gls] using h
  subst this
  !⟨rfl,fun u t v e=>by simp at e⟩
 | i+1,w,h=>by
  &⟨w',hw',hm⟩:=List.mem_flatMap.1 (show w∈(gls x i).flatMap fun w=>(bL x w).map fun t=>w++[t] from h)
  &⟨t,ht,rfl⟩:=List.mem_map.1 hm
  have ih:=j5 hw'
  @⟨by rw [List.length_append,ih.1]; rfl,fun u s v e=>?_⟩
  rcases List.eq_nil_or_concat v with rfl | ⟨v',b,rfl⟩
  ·have h1:=List.append_inj' e rfl
   have:t=s:=¥h1.2
   rw [<- this,<- h1.1]
   !ht
  ·have e2:w'++[t]=(u++s::v')++[b]:=by rw [e]; simp
   have h1:=List.append_inj' e2 rfl
   !ih.2 u s v' h1.1
##tW:∀ {i:Nat} {w:List Int},w.length=i->(∀ u t v,w=u++t::v->t∈bL x u)->w∈gls x i
 | 0,w,h,_=>by
  have:w=[]:=List.length_eq_zero_iff.1 h
  subst this
  !List.mem_singleton.2 rfl
 | i+1,w,h,hp=>by
  rcases List.eq_nil_or_concat w with rfl | ⟨w',b,rfl⟩
  ·cases h
  ·@List.mem_flatMap.2 ⟨w',tW (¥h) fun u t v e=>hp u t (v++[b]) (by rw [e]; simp),List.mem_map.2 ⟨b,hp w' b [] (by simp),by simp⟩⟩
end
section
variable {x y:List (List Int)}
##DA:∀ i:Nat,(gls x i).Nodup
 | 0=>by simp [gls]
 | i+1=>by
  show ((gls x i).flatMap fun w=>(bL x w).map fun t=>w++[t]).Nodup
  ~List.Nodup
  rw [List.pairwise_flatMap]
  @⟨fun w _=>?_,(DA i).imp fun {a b} hab u hu v hv e=>?_⟩
  ·!List.pairwise_map.2 ((SC w).imp fun {a b} hab e=>hab (by have:=(List.append_inj' e rfl).2; simpa using this))
  ·&⟨t,_,rfl⟩:=List.mem_map.1 hu
   &⟨s,_,rfl⟩:=List.mem_map.1 hv
   !hab (List.append_inj' e rfl).1
##rY {w:List Int} (h:∀ u t v,w=u++t::v->t∈bL x u):w.Nodup /\ ∀ t∈w,0<=t/\t<(x.length:Int):=by
 have key:∀ (r u:List Int),(∀ p t v,u++r=p++t::v->t∈bL x p)->u.Nodup->(u++r).Nodup:=by
  intro r
  induction r with
  | nil=>intro u _ hu; rw [List.append_nil]; !hu
  | cons t r ih =>
   intro u hp hu
   have ht:=(iT (hp u t r rfl)).2
   have e:u++t::r=(u++[t])++r:=by simp
   rw [e]
   @ih (u++[t]) (fun p s v e2=>hp p s v (by rw [e,e2])) ?_
   rw [List.nodup_append]
   !⟨hu,by simp,fun a ha b hb e=>ht (by rw [List.mem_singleton] at hb; rw [<- hb,<- e]; !ha)⟩
 @⟨key w [] h List.nodup_nil,fun t ht=>?_⟩
 &⟨u,v,rfl⟩:=List.append_of_mem ht
 !(iT (h u t v rfl)).1
##tX {w:List Int} (hl:w.length=x.length) (h:∀ u t v,w=u++t::v->t∈bL x u) {b:Int} (h0:0<=b) (h1:b<(x.length:Int)):b∈w:=by
 &⟨nd,hr⟩:=rY h
 @Classical.byContradiction fun hb=>?_
 have:=Ord.eJ (b::w) (bG 0 x.length) (List.nodup_cons.2 ⟨hb,nd⟩) fun t ht=>by
  rcases List.mem_cons.1 ht with z | z
  ·rw [z]; !cB.2 ⟨h0,by omega⟩
  ·have:=hr t z; !cB.2 ⟨this.1,by omega⟩
 rw [List.length_cons,aQ] at this
 omega
def Turned (x y:List (List Int)):Prop:=y.length=x.length /\ ∀ a b:Int,0<=b->b<(x.length:Int)->(a∈row y ((x.length:Int) - 1 - b)↔(x.length:Int) - 1 - a∈row x b)
##Turned.symm (h:Turned x y):Turned y x:=by
 @⟨h.1.symm,fun a b h0 h1=>?_⟩
 rw [h.1] at h1 ⊢
 have e:=h.2 ((x.length:Int) - 1 - a) ((x.length:Int) - 1 - b) ° °
 rw [show (x.length:Int) - 1 - ((x.length:Int) - 1 - b)=b by omega,show (x.length:Int) - 1 - ((x.length:Int) - 1 - a)=a by omega] at e
 !e.symm
def IM (x z:List (List Int)):Prop:=z.length=x.length /\ ∀ a b:Int,0<=a->a<(x.length:Int)->0<=b->b<(x.length:Int)->(a∈row x b↔b∈row z a)
##IM.symm (h:IM x y):IM y x:=⟨h.1.symm,fun a b h0 h1 h2 h3=>by rw [h.1] at h1 h3; !(h.2 b a h2 h3 h0 h1).symm⟩
end
section
variable {x:List (List Int)}
##pD {b:Int}:∀ {u u' v v':List Int},(u++b::v).Nodup->u++b::v=u'++b::v'->u=u'
 | [],[],_,_,_,_=>rfl
 | [],c::u',v,v',nd,e=>by
  simp only [List.nil_append,List.cons_append,List.cons.injEq] at e
  rw [List.nil_append,List.nodup_cons] at nd
  !absurd (by rw [e.2]; !List.mem_append_right _ List.mem_cons_self) nd.1
 | c::u,[],v,v',nd,e=>by
  simp only [List.nil_append,List.cons_append,List.cons.injEq] at e
  rw [List.cons_append,List.nodup_cons] at nd
  !absurd (by rw [e.1]; !List.mem_append_right _ List.mem_cons_self) nd.1
 | c::u,d::u',v,v',nd,e=>by
  simp only [List.cons_append,List.cons.injEq] at e
  rw [List.cons_append,List.nodup_cons] at nd
  rw [e.1,pD nd.2 e.2]
def Bef (a b:Int) (w:List Int):Prop:=∃ u v,w=u++b::v/\a∈u
##SG {a b:Int} (ha:0<=a/\a<(x.length:Int)) (hb:0<=b/\b<(x.length:Int)) {w:List Int} (hw:w∈gls x x.length) (h:Bef a b w):w∈gls (put x a b) x.length:=by
 have hg:=j5 hw
 have nd:=(rY hg.2).1
 &⟨u,v,e,hu⟩:=h
 @tW hg.1 fun p t q et=>?_
 have hr:=iV.1 (hg.2 p t q et)
 have tail:∀ l,(l=a\/l∈row x a)->a∈p->l∈p:=fun l hl hap=>by
  rcases hl with z | z
  ·rw [z]; !hap
  ·&⟨r1,r2,er⟩:=List.append_of_mem hap
   have:=(iV.1 (hg.2 r1 a (r2++t::q) (by rw [et,er]; simp))).2.2 l z
   rw [er]
   !List.mem_append_left _ this
 @iV.2 ⟨by rw [dP]; !hr.1,hr.2.1,fun l hl=>?_⟩
 rcases (lG hr.1.1 hr.1.2).1 hl with z | ⟨z | z,hz⟩
 ·!hr.2.2 l z
 ·subst z
  @tail l hz ?_
  have:u=p:=pD (by rw [<- e]; !nd) (by rw [<- e,et])
  rw [<- this]
  !hu
 ·@tail l hz ?_
  have hbp:=hr.2.2 b z
  &⟨r1,r2,er⟩:=List.append_of_mem hbp
  have:u=r1:=pD (b:=b) (v':=r2++t::q) (by rw [<- e]; !nd) (by rw [<- e,et,er]; simp)
  rw [er,<- this]
  !List.mem_append_left _ hu
##vS {a b:Int} (hb:0<=b/\b<(x.length:Int)) {w:List Int} (hw:w∈gls (put x a b) x.length):w∈gls x x.length/\Bef a b w:=by
 have hg:=j5 hw
 have hpl:=dP x a b
 @⟨tW hg.1 fun p t q et=>?_,?_⟩
 ·have hr:=iV.1 (hg.2 p t q et)
  rw [hpl] at hr
  !iV.2 ⟨hr.1,hr.2.1,fun l hl=>hr.2.2 l ((lG hr.1.1 hr.1.2).2 (.inl hl))⟩
 ·have hbw:b∈w:=tX (x:=put x a b) (by rw [hg.1,hpl]) hg.2 hb.1 (by rw [hpl]; !hb.2)
  &⟨u,v,e⟩:=List.append_of_mem hbw
  !⟨u,v,e,(iV.1 (hg.2 u b v e)).2.2 a ((lG hb.1 hb.2).2 (.inr ⟨.inl rfl,.inl rfl⟩))⟩
##X8 {a b:Int} {w:List Int} (nd:w.Nodup) (h1:Bef a b w) (h2:Bef b a w):False:=by
 &⟨u,v,e,hu⟩:=h1
 &⟨u',v',e',hu'⟩:=h2
 &⟨r1,r2,er⟩:=List.append_of_mem hu
 have h3:u' = r1:=pD (b:=a) (v':=r2++b::v) (by rw [<- e']; !nd) (by rw [<- e',e,er]; simp)
 have h4:b∈u:=by rw [er,<- h3]; !List.mem_append_left _ hu'
 rw [e] at nd
 !(List.nodup_append.1 nd).2.2 b h4 b List.mem_cons_self rfl
##aBY {a b:Int} (hab:a≠b) (ha:0<=a/\a<(x.length:Int)) (hb:0<=b/\b<(x.length:Int)) {w:List Int} (hw:w∈gls x x.length):Bef a b w\/Bef b a w:=by
 have hg:=j5 hw
 have h1:=tX hg.1 hg.2 ha.1 ha.2
 &⟨u,v,e⟩:=List.append_of_mem (tX hg.1 hg.2 hb.1 hb.2)
 rw [e] at h1
 rcases List.mem_append.1 h1 with z | z
 ·!.inl ⟨u,v,e,z⟩
 ·rcases List.mem_cons.1 z with z | z
  ·!absurd z hab
  ·&⟨v1,v2,ev⟩:=List.append_of_mem z
   !.inr ⟨u++b::v1,v2,by rw [e,ev]; simp,List.mem_append_right _ List.mem_cons_self⟩
end
section
variable {x y z:List (List Int)}
structure Sd (x y z:List (List Int)):Prop where
 len:z.length=x.length+y.length
 lo:∀ t:Int,0<=t->t<(x.length:Int) -> ∀ a,a∈row z t↔a∈row x t
 hi:∀ t:Int,0<=t->t<(y.length:Int) -> ∀ a,a∈row z (t+x.length)↔a - x.length∈row y t
 rx:∀ t:Int,0<=t->t<(x.length:Int) -> ∀ a∈row x t,0<=a/\a<(x.length:Int)
 ry:∀ t:Int,0<=t->t<(y.length:Int) -> ∀ a∈row y t,0<=a/\a<(y.length:Int)
structure Cb (x y:List (List Int)) (a b c:List Int):Prop where
 lo:∀ t:Int,0<=t->t<(x.length:Int)->(t∈c↔t∈a)
 hi:∀ t:Int,0<=t->t<(y.length:Int)->(t+x.length∈c↔t∈b)
##X9 {a:List Int} {t:Int} (h:okI x a) (ht:t∈bL x a):okI x (cQ a t):=by
 &⟨r,n⟩:=iT ht
 @⟨?_,fun s hs=>?_⟩
 ·~cQ
  @((sortI_perm (a++[t])).nodup_iff).2 ?_
  rw [List.nodup_append]
  !⟨h.1,by simp,fun p hp q hq e=>n (by rw [List.mem_singleton] at hq; rw [<- hq,<- e]; !hp)⟩
 ·rcases mF.1 hs with q | q
  ·!h.2 s q
  ·rw [q]; !r
end
section
variable {x y z:List (List Int)}
structure Av (x y z:List (List Int)) (s t:Int):Prop where
 len:z.length=x.length+y.length
 lo:∀ a:Int,0<=a->a<(x.length:Int) -> ∀ b,b∈row z (a+s)↔b - s∈row x a
 hi:∀ a:Int,0<=a->a<(y.length:Int) -> ∀ b,b∈row z (a+t)↔(s<=b/\b<s+x.length)\/b - t∈row y a
 rx:∀ a:Int,0<=a->a<(x.length:Int) -> ∀ b∈row x a,0<=b/\b<(x.length:Int)
 ry:∀ a:Int,0<=a->a<(y.length:Int) -> ∀ b∈row y a,0<=b/\b<(y.length:Int)
 st:(s=0/\t=x.length)\/(s=y.length/\t=0)
##BA {a:List Int} {t:Int}:t∈bL x a↔0<=t/\t<(x.length:Int)/\t∉a /\ ∀ l∈row x t,l∈a:=by
 ~bL
 rw [List.mem_filter,List.mem_filter,cB,List.all_eq_true]
 constructor
 ·intro ⟨⟨⟨h0,h1⟩,h2⟩,h3⟩
  !⟨h0,by omega,¥h2,fun l hl=>¥h3 l hl⟩
 ·intro ⟨h0,h1,h2,h3⟩
  !⟨⟨⟨h0,by omega⟩,¥h2⟩,fun l hl=>¥h3 l hl⟩
end
##aI2 {i:Nat} {f:EF} {ρ:aP} {d:D} (h:f (kD ρ)=some d):iA i f ρ=.nx (ρ.set i (.ow d)):=by
 ~iA
 rw [h]
##DB (f:Int->Int) (n:Nat):((bG 0 (n+1)).map f).sum=((bG 0 n).map f).sum+f n:=by
 rw [iQ,List.map_append,List.sum_append]
 show _+(f (0+(n:Int))+0)=_
 rw [Int.zero_add]
 omega
##YA {l:List Int} {i:Int} (h0:0<=i) (h1:i<(l.length:Int)):at0 l i∈l:=by
 ~at0
 rw [List.getElem?_eq_getElem °]
 !List.getElem_mem _
end LL
end
section
namespace LL
open PySem L3 L4
def gB:eT:=bK 7 1
  (aH (aN 1 (aG LL.iU (aA (aB 0) aE)))
  (aH (CN 2 (eC (.int 0)) (eC (.int 1)))
  (aH (dE (aR (aA (bF aV (aA (aB 0) aE)) aE)) (lE 3)
   (aH (EX 4)
   (aH (XE 2 (dE (HW (aB 2)) (lE 5)
    (dE (aR (aA (bF aV (aA (aB 0) aE)) aE)) (lE 6)
     (eV (kX (tV (aC kT (aC nX (aC HX (aB 5) (aB 6)) (eC (.int 1))) (eC (.int 0)))) (tV (aC kT (aC nX (aC aY (aB 1) (aB 6)) (aB 5)) (aC aY (aB 1) (aB 6)))))
      (mC 4 (fZ (aC bO (K3 (aB 4) (aC HY (aB 5) (aC wK (eC (.int 1)) (aB 6))) (eC (.int 0))) (aC pS (aB 2) (aB 5)))) (aC HY (aB 5) (aC wK (eC (.int 1)) (aB 6))))
      bY))))
   (K4 2 4))))
  (aU (aC pS (aB 2) (aC fE (aC wK (eC (.int 1)) (bF aV (aA (aB 0) aE))) (eC (.int 1))))))))
end LL
end
section
namespace LL
open PySem L3 L4 K24
section
variable {x:List (List Int)}
##eO {t:Int} (h0:0<=t) (h1:t<(x.length:Int)):x[t.toNat]? = some (row x t):=by
 ~row
 rw [List.getElem?_eq_getElem °]
 rfl
##FH (hx:Ord.Rows x) {t l:Int} (h0:0<=t) (h1:t<(x.length:Int)) (hl:l∈row x t):(0<=l/\l<(x.length:Int))/\(row x l).length<(row x t).length:=by
 have hr:=hx.rng _ _ (eO h0 h1) l hl
 @⟨hr,?_⟩
 have e:((l.toNat:Nat):Int)=l:=by omega
 have sub:∀ c∈l::row x l,c∈row x t:=fun c hc=>by
  rcases List.mem_cons.1 hc with q | q
  ·rw [q]; !hl
  ·!hx.tr t.toNat l.toNat _ _ (eO h0 h1) (by rw [e]; !hl) (eO hr.1 hr.2) c q
 have nd:(l::row x l).Nodup:=List.nodup_cons.2 ⟨by have:=hx.W4 l.toNat _ (eO hr.1 hr.2); rwa [e] at this,(hx.up _ _ (eO hr.1 hr.2)).imp fun {a b} (q:a<b)=>by omega⟩
 have:=Ord.eJ _ _ nd sub
 rw [List.length_cons] at this
 omega
##SH (hx:Ord.Rows x) {a:List Int} (ha:okI x a) (hl:a.length<x.length):∃ t,t∈bL x a:=by
 have go:∀ (n:Nat) (t:Int),(row x t).length<=n->0<=t->t<(x.length:Int)->t∉a -> ∃ t,t∈bL x a:=by
  intro n
  induction n with
  | zero =>
   intro t hn h0 h1 ht
   @⟨t,BA.2 ⟨h0,h1,ht,fun l hm=>?_⟩⟩
   have:=(FH hx h0 h1 hm).2
   omega
  | succ n ih =>
   intro t hn h0 h1 ht
   by_cases c:∃ l∈row x t,l∉a
   ·&⟨l,hm,hla⟩:=c
    have:=FH hx h0 h1 hm
    !ih l ° this.1.1 this.1.2 hla
   ·!⟨t,BA.2 ⟨h0,h1,ht,fun l hm=>Classical.byContradiction fun q=>c ⟨l,hm,q⟩⟩⟩
 have:∃ t∈bG 0 x.length,t∉a:=by
  @Classical.byContradiction fun q=>?_
  have:=Ord.eJ (bG 0 x.length) a (C4 _) fun t ht=>Classical.byContradiction fun c=>q ⟨t,ht,c⟩
  rw [aQ] at this
  omega
 &⟨t,ht,hta⟩:=this
 have hr:=cB.1 ht
 !go _ t (Nat.le_refl _) hr.1 ° hta
##SI {α:Type} {f:α->Int}:∀ {l:List α} {a:α},(∀ b∈l,0<=f b)->a∈l->f a<=(l.map f).sum
 | b::l,a,h,ha=>by
  have nn:∀ {l:List α},(∀ b∈l,0<=f b)->0<=(l.map f).sum:=fun {l} h=>by
   induction l with
   | nil=>!Int.le_refl 0
   | cons c l ih =>
    rw [List.map_cons,List.sum_cons]
    have:=h c List.mem_cons_self
    have:=ih fun b hb=>h b (List.mem_cons_of_mem _ hb)
    omega
  rw [List.map_cons,List.sum_cons]
  rcases List.mem_cons.1 ha with q | q
  ·rw [q]
   have:=nn fun c hc=>h c (List.mem_cons_of_mem _ hc)
   omega
  ·have:=h b List.mem_cons_self
   have:=SI (fun c hc=>h c (List.mem_cons_of_mem _ hc)) q
   omega
##SJ:∀ (m:Nat) (a:List Int),0<=cnt x m a
 | 0,a=>by show (0:Int)<=1; decide
 | m+1,a=>by
  show 0<=((bL x a).map fun t=>cnt x m (cQ a t)).sum
  have nn:∀ {l:List Int},0<=(l.map fun t=>cnt x m (cQ a t)).sum:=fun {l}=>by
   induction l with
   | nil=>!Int.le_refl 0
   | cons c l ih =>
    rw [List.map_cons,List.sum_cons]
    have:=SJ m (cQ a c)
    omega
  !nn
##LP (hx:Ord.Rows x):∀ (m:Nat) (a:List Int),okI x a->a.length+m=x.length->1<=cnt x m a
 | 0,a,_,_=>by show (1:Int)<=1; decide
 | m+1,a,ha,hl=>by
  &⟨t,ht⟩:=SH hx ha °
  have h1:=LP hx m (cQ a t) (X9 ha ht) (by rw [xC]; omega)
  have h2:=SI (f:=fun t=>cnt x m (cQ a t)) (fun b _=>SJ m _) ht
  show 1<=((bL x a).map fun t=>cnt x m (cQ a t)).sum
  omega
##LQ:cnt x x.length []=(shares x).sum:=by
 rw [<- IL x.length [] (-1) (by simp) (.inl rfl),R9 x x.length [] (l:=-1) (l':=0) § §]
 rfl
##qM (hx:Ord.Rows x):1<=(shares x).sum:=by
 rw [<- LQ]
 !LP hx _ [] XX (by simp)
##NW (hx:Ord.Rows x) (S:Nat) (f:Int->Int):((bL x (things x S)).map f).sum=((bG 0 x.length).map fun t=>if LH x t.toNat S=true then f t else 0).sum:=by
 ~bL
 rw [List.filter_filter,FG]
 congr 1
 @List.map_congr_left fun t ht=>?_
 have hr:=cB.1 ht
 have hi:=X1 hx (b:=t.toNat) (S:=S) °
 rw [show ((t.toNat:Nat):Int)=t by omega] at hi
 have hm:t∈bL x (things x S)↔((LL.row x t).all fun l=>(things x S).contains l)=true/\(!(things x S).contains t)=true:=by
  ~bL
  rw [List.mem_filter,List.mem_filter]
  !⟨fun h=>⟨h.2,h.1.2⟩,fun h=>⟨⟨ht,h.2⟩,h.1⟩⟩
 by_cases hc:LH x t.toNat S=true
 ·rw [if_pos hc,if_pos (by have:=hm.1 (hi.1 hc); rw [Bool.and_eq_true]; !this)]
 ·rw [if_neg hc,if_neg]
  intro h
  rw [Bool.and_eq_true] at h
  !hc (hi.2 (hm.2 h))
def Cm (x:List (List Int)) (S:Nat):Int:=cnt x (x.length - (things x S).length) (things x S)
##YB (hx:Ord.Rows x) {S:Nat} (hl:(things x S).length<x.length):Cm x S=((bG 0 x.length).map fun t=>if LH x t.toNat S=true then Cm x (S ||| 2 ^ t.toNat) else 0).sum:=by
 obtain ⟨m,hm⟩:∃ m,x.length - (things x S).length=m+1:=⟨x.length - (things x S).length - 1,by omega⟩
 ~Cm
 rw [hm]
 show ((bL x (things x S)).map fun t=>cnt x m (cQ (things x S) t)).sum=_
 rw [NW hx]
 congr 1
 @List.map_congr_left fun t ht=>?_
 have hr:=cB.1 ht
 by_cases c:LH x t.toNat S=true
 ·rw [if_pos c,if_pos c]
  have tb:S.testBit t.toNat=false:=by
   ~LH at c
   rw [Bool.and_eq_true] at c
   simpa using c.1
  rw [n5 ° tb,show x.length - ((things x S).length+1)=m by omega]
  @tU m fun u=>?_
  have h:=A8 (x:=x) (S:=S) (b:=t.toNat) ° u
  rw [show ((t.toNat:Nat):Int)=t by omega] at h
  !h.symm
 ·rw [if_neg c,if_neg c]
def stM (x:List (List Int)) (F:Tab) (S:Nat) (v:Int) (b:Nat):Tab:=if LH x b S=true then zP F (S ||| 2 ^ b) ((kZ F (S ||| 2 ^ b)).getD 0+v) else F
def stN (x:List (List Int)) (F:Tab) (S:Nat) (v:Int):Nat->Tab
 | 0=>F
 | b+1=>stM x (stN x F S v b) S v b
def Kl (x:List (List Int)) (i:Nat) (F:Tab):Prop:=∀ q∈F,(things x q.1).length=i
##SK {A:Tab} {h:Nat} {v:Int} {q:Nat×Int} (hq:q∈zP A h v):q∈A\/q.1=h:=by
 ~zP at hq
 split at hq
 ·&⟨p,hp,e⟩:=List.mem_map.1 hq
  by_cases c:p.1=h
  ·rw [if_pos c] at e; !.inr (by rw [<- e]; !c)
  ·rw [if_neg c] at e; !.inl (by rw [<- e]; !hp)
 ·rcases List.mem_append.1 hq with z | z
  ·!.inl z
  ·rw [List.mem_singleton] at z; !.inr (by rw [z])
##IN {F:Tab} {S:Nat} {v:Int} {i:Nat} (o:LI x.length F) (k:Kl x (i+1) F) (hS:S<2 ^ x.length) (hi:(things x S).length=i):∀ b,b<=x.length->LI x.length (stN x F S v b)/\Kl x (i+1) (stN x F S v b)/\tot (stN x F S v b) (Cm x)=tot F (Cm x)+((bG 0 b).map fun t=>if LH x t.toNat S=true then v*Cm x (S ||| 2 ^ t.toNat) else 0).sum
 | 0,_=>⟨o,k,(Int.add_zero _).symm⟩
 | b+1,hb=>by
  &⟨o1,k1,t1⟩:=IN (v:=v) o k hS hi b °
  rw [DB]
  show LI x.length (stM x (stN x F S v b) S v b)/\Kl x (i+1) (stM x (stN x F S v b) S v b)/\tot (stM x (stN x F S v b) S v b) (Cm x)=_
  ~stM
  rw [Int.toNat_natCast]
  by_cases c:LH x b S=true
  ·rw [if_pos c,if_pos c,X2 _ _ _ o1.nd,t1]
   have tb:S.testBit b=false:=by
    ~LH at c
    rw [Bool.and_eq_true] at c
    simpa using c.1
   @⟨o1.put (aDs hS °) _,fun q hq=>?_,by omega⟩
   rcases SK hq with z | z
   ·!k1 q z
   ·rw [z,n5 ° tb,hi]
  ·rw [if_neg c,if_neg c,t1]
   !⟨o1,k1,by omega⟩
def NX (x:List (List Int)) (F:Tab) (q:Nat×Int):Tab:=stN x F q.1 q.2 x.length
def aDx (x:List (List Int)) (A:Tab):Tab:=A.foldl (NX x) []
def dQ (x:List (List Int)):Nat->Tab
 | 0=>[(0,1)]
 | i+1=>aDx x (dQ x i)
##aAV (hx:Ord.Rows x) {F:Tab} {q:Nat×Int} {i:Nat} (o:LI x.length F) (k:Kl x (i+1) F) (hS:q.1<2 ^ x.length) (hi:(things x q.1).length=i) (hlt:i<x.length):LI x.length (NX x F q)/\Kl x (i+1) (NX x F q)/\tot (NX x F q) (Cm x)=tot F (Cm x)+q.2*Cm x q.1:=by
 &⟨o1,k1,t1⟩:=IN (v:=q.2) o k hS hi x.length (Nat.le_refl _)
 @⟨o1,k1,?_⟩
 ~NX
 rw [t1,YB hx °,<- A9]
 congr 2
 @List.map_congr_left fun t _=>?_
 split
 ·rfl
 ·rw [Int.mul_zero]
##SL (hx:Ord.Rows x) {i:Nat} (hlt:i<x.length):∀ (A F:Tab),(∀ q∈A,q.1<2 ^ x.length)->Kl x i A->LI x.length F->Kl x (i+1) F->LI x.length (A.foldl (NX x) F)/\Kl x (i+1) (A.foldl (NX x) F)/\tot (A.foldl (NX x) F) (Cm x)=tot F (Cm x)+tot A (Cm x)
 | [],F,_,_,o,k=>⟨o,k,(Int.add_zero _).symm⟩
 | q::A,F,hA,kA,o,k=>by
  &⟨o1,k1,t1⟩:=aAV hx o k (hA q List.mem_cons_self) (kA q List.mem_cons_self) hlt
  &⟨o2,k2,t2⟩:=SL hx hlt A (NX x F q) (fun r hr=>hA r (List.mem_cons_of_mem _ hr)) (fun r hr=>kA r (List.mem_cons_of_mem _ hr)) o1 k1
  rw [List.foldl_cons]
  @⟨o2,k2,?_⟩
  rw [t2,t1]
  show _=_+(q.2*Cm x q.1+tot A (Cm x))
  omega
##DC (hx:Ord.Rows x):∀ i:Nat,i<=x.length->LI x.length (dQ x i)/\Kl x i (dQ x i)/\tot (dQ x i) (Cm x)=(shares x).sum
 | 0,_=>by
  @⟨⟨by simp [dQ],fun q hq=>?_⟩,fun q hq=>?_,?_⟩
  ·rw [show dQ x 0=[(0,1)] from rfl,List.mem_singleton] at hq
   rw [hq]; !Nat.two_pow_pos _
  ·rw [show dQ x 0=[(0,1)] from rfl,List.mem_singleton] at hq
   rw [hq,uP]; rfl
  ·show 1*Cm x 0+0=_
   ~Cm
   rw [uP,<- LQ]
   show 1*cnt x (x.length - 0) []+0=_
   rw [Nat.sub_zero]
   omega
 | i+1,h=>by
  &⟨o,k,t⟩:=DC hx i °
  &⟨o1,k1,t1⟩:=SL hx (i:=i) ° (dQ x i) [] o.lt k ⟨List.nodup_nil,fun _ h=>by cases h⟩ fun _ h=>by cases h
  @⟨o1,k1,?_⟩
  show tot ((dQ x i).foldl (NX x) []) (Cm x)=_
  rw [t1,t]
  show 0+_=_
  omega
##aBZ (hx:Ord.Rows x):kZ (dQ x x.length) (2 ^ x.length - 1)=some (shares x).sum:=by
 &⟨o,k,t⟩:=DC hx x.length (Nat.le_refl _)
 have full:∀ q∈dQ x x.length,q.1=2 ^ x.length - 1:=fun q hq=>(FD (o.lt q hq)).1 (k q hq)
 have one:∀ {S:Nat},(things x S).length=x.length->Cm x S=1:=fun {S} h=>by
  ~Cm
  rw [h,Nat.sub_self]
  rfl
 have hp:=qM hx
 generalize dQ x x.length=A at o k t full
 match A,o,k,t,full with
 | [],_,_,t,_ =>
  have:(0:Int)=(shares x).sum:=t
  omega
 | [q],o,k,t,full =>
  have e1:=full q List.mem_cons_self
  have t2:q.2*Cm x q.1+0=(shares x).sum:=t
  rw [one (k q List.mem_cons_self)] at t2
  ~kZ
  rw [List.find?_cons,decide_eq_true e1]
  show some q.2=_
  congr 1
  omega
 | q::r::A,o,_,_,full =>
  have nd:=o.nd
  rw [List.map_cons,List.map_cons,List.nodup_cons] at nd
  !absurd (by rw [full q List.mem_cons_self,full r (List.mem_cons_of_mem _ List.mem_cons_self)]; !List.mem_cons_self) nd.1
abbrev SM (x:List (List Int)) (s2 s3 s4 s5 s6:Sv):aP:=[.ro (aJ x),.ro (aK (NU x)),s2,s3,s4,s5,s6]
abbrev bMb:L4.SF:=eV (kX (tV (aC kT (aC nX (aC HX (aB 5) (aB 6)) (eC (.int 1))) (eC (.int 0)))) (tV (aC kT (aC nX (aC aY (aB 1) (aB 6)) (aB 5)) (aC aY (aB 1) (aB 6)))))
      (mC 4 (fZ (aC bO (K3 (aB 4) (aC HY (aB 5) (aC wK (eC (.int 1)) (aB 6))) (eC (.int 0))) (aC pS (aB 2) (aB 5)))) (aC HY (aB 5) (aC wK (eC (.int 1)) (aB 6))))
      bY
##aDy {i:Nat} {f k:EF} {ρ:aP} {q:Nat->Obj->Prop} {F:Tab} {h:Nat} {v:Int} (h1:f (bT ρ)=some (.int v)) (h2:ρ[i]? = some (.ow (dT q F))) (h3:k (bT ρ)=some (.int (h:Int))) (h6:F.length<16000000):mC i (fZ f) k ρ=.nx (ρ.set i (.ow (dT (adr q) (zP F h v)))):=by
 ~mC fZ
 rw [h1]
 simp only [Option.bind_some,D.vN,if_true]
 rw [h2]
 simp only [EW,dT,Option.bind_some]
 rw [h3]
 simp only [Option.bind_some]
 rw [aBW]
 simp only [Option.bind_some]
 rw [if_pos ⟨IK F h,by ~kdT uK; rw [List.length_map]; omega⟩,aDt]
##aB1 (hx:Ord.Rows x) (hn:x.length<=9) {A F:Tab} {qa qf:Nat->Obj->Prop} {S b:Nat} {v:Int} {s3:Sv} (hv:kZ A S=some v) (o:LI x.length F) (hb:b<x.length) :
  Nx (bMb (SM x (.ro (dT qa A)) s3 (.ow (dT qf F)) (.ro (.int (S:Int))) (.ro (.int (b:Int))))) fun ρ=>∃ q',ρ=SM x (.ro (dT qa A)) s3 (.ow (dT q' (stM x F S v b))) (.ro (.int (S:Int))) (.ro (.int (b:Int))):=by
 have tst:(kX (tV (aC kT (aC nX (aC HX (aB 5) (aB 6)) (eC (.int 1))) (eC (.int 0)))) (tV (aC kT (aC nX (aC aY (aB 1) (aB 6)) (aB 5)) (aC aY (aB 1) (aB 6))))) (bT (SM x (.ro (dT qa A)) s3 (.ow (dT qf F)) (.ro (.int (S:Int))) (.ro (.int (b:Int)))))=some (LH x b S):=by
  have e1:tV (aC kT (aC nX (aC HX (aB 5) (aB 6)) (eC (.int 1))) (eC (.int 0))) (bT (SM x (.ro (dT qa A)) s3 (.ow (dT qf F)) (.ro (.int (S:Int))) (.ro (.int (b:Int)))))=some (!S.testBit b):=by
   @mZ (aM (x:=.int (if S.testBit b=true then 1 else 0)) (y:=.int 0) (aIZ rfl rfl) rfl fV) ?_
   show some (decide ((if S.testBit b=true then (1:Int) else 0)=0))=_
   cases S.testBit b<;>rfl
  have e2:tV (aC kT (aC nX (aC aY (aB 1) (aB 6)) (aB 5)) (aC aY (aB 1) (aB 6))) (bT (SM x (.ro (dT qa A)) s3 (.ow (dT qf F)) (.ro (.int (S:Int))) (.ro (.int (b:Int)))))=some (decide (Mk x b &&& S=Mk x b)):=by
   have em:aC aY (aB 1) (aB 6) (bT (SM x (.ro (dT qa A)) s3 (.ow (dT qf F)) (.ro (.int (S:Int))) (.ro (.int (b:Int)))))=some (.int (Mk x b:Int)):=aM (x:=aK (NU x)) (y:=.int (b:Int)) rfl rfl (aBV hb)
   @mZ (aM (x:=.int ((Mk x b &&& S:Nat):Int)) (y:=.int (Mk x b:Int)) (aM em rfl (FE _ _)) em fV) ?_
   show some (decide (((Mk x b &&& S:Nat):Int)=(Mk x b:Int)))=_
   congr 1
   rw [decide_eq_decide]
   omega
  @AU e1 (fun _=>?_) fun h=>?_
  ·rw [e2]
   ~LH
   rw [‹(!S.testBit b)=true›,Bool.true_and]
  ·~LH
   rw [h,Bool.false_and]
 @jG _ tst (fun hc=>?_) fun hc=>?_
 ·have hk:aC HY (aB 5) (aC wK (eC (.int 1)) (aB 6)) (bT (SM x (.ro (dT qa A)) s3 (.ow (dT qf F)) (.ro (.int (S:Int))) (.ro (.int (b:Int)))))=some (.int ((S ||| 2 ^ b:Nat):Int)):=by
   @aM (x:=.int (S:Int)) (y:=.int ((2 ^ b:Nat):Int)) rfl (aM (x:=.int ((1:Nat):Int)) (y:=.int (b:Int)) rfl rfl (by rw [LK § °,LM])) (X4 _ _)
  have hl:=X3 o
  have h2:(2:Nat) ^ x.length<=2 ^ 9:=Nat.pow_le_pow_right § hn
  @⟨_,aDy (q:=qf) (F:=F) (h:=S ||| 2 ^ b) (v:=(kZ F (S ||| 2 ^ b)).getD 0+v) ?_ rfl hk °,adr qf,?_⟩
  ·@aM (x:=.int ((kZ F (S ||| 2 ^ b)).getD 0)) (y:=.int v) ?_ (aM (x:=dT qa A) (y:=.int (S:Int)) rfl rfl (aDv hv)) jE
   ~K3
   rw [hk]
   show RC (dT qf F) (.int ((S ||| 2 ^ b:Nat):Int)) (.int 0)=_
   !aDu F qf _
  ·~stM
   rw [if_pos hc]
   rfl
 ·@iS ⟨qf,?_⟩
  ~stM
  rw [if_neg (by rw [hc]; decide)]
##FI (hx:Ord.Rows x) (hn:x.length<=9):gB [aJ x]=.ok (.int (shares x).sum):=by
 ~gB
 have main:Rt ((aH (aN 1 (aG LL.iU (aA (aB 0) aE)))
  (aH (CN 2 (eC (.int 0)) (eC (.int 1)))
  (aH (dE (aR (aA (bF aV (aA (aB 0) aE)) aE)) (lE 3)
   (aH (EX 4)
   (aH (XE 2 (dE (HW (aB 2)) (lE 5)
    (dE (aR (aA (bF aV (aA (aB 0) aE)) aE)) (lE 6) bMb)))
   (K4 2 4))))
  (aU (aC pS (aB 2) (aC fE (aC wK (eC (.int 1)) (bF aV (aA (aB 0) aE))) (eC (.int 1)))))))) (fA 7 [aJ x])) fun d=>d=.int (shares x).sum:=by
  @cV (SM x .no .no .no .no .no) (iE _ (mY rfl (SE hx hn)) rfl) ?_
  @cV (SM x (.ow (dT vA [(0,1)])) .no .no .no .no) rfl ?_
  @kK (fun ρ=>∃ q v3 v4 v5 v6,ρ=SM x (.ow (dT q (dQ x x.length))) v3 v4 v5 v6) ?_ fun ρ ⟨q,v3,v4,v5,v6,e⟩=>?_
  ·@nZ x.length (fun i ρ=>∃ q v3 v4 v5 v6,ρ=SM x (.ow (dT q (dQ x i))) v3 v4 v5 v6) (args1 (dJ rfl dZ)) ° ⟨_,_,_,_,_,rfl⟩ (fun i ρ hi ⟨q,v3,v4,v5,v6,e⟩=>?_) fun ρ h=>h
   subst e
   &⟨oA,kA,tA⟩:=DC hx i °
   @⟨_,rfl,fN (SM x (.ow (dT q (dQ x i))) (.ro (.int i)) (.ow (dT vA [])) v5 v6) rfl ?_⟩
   @tN (fun ρ=>∃ q' u5 u6,ρ=SM x (.ro (dT q (dQ x i))) (.ro (.int i)) (.ow (dT q' (aDx x (dQ x i)))) u5 u6) ?_ fun ρ ⟨q',u5,u6,e⟩=>?_
   ·have hgo:∀ (B F:Tab) (qf:Nat->Obj->Prop) (w5 w6:Sv),LI x.length F->Kl x (i+1) F->(∀ p∈B,p∈dQ x i) -> ∃ q' u5 u6,gU (lE 5) (dE (aR (aA (bF aV (aA (aB 0) aE)) aE)) (lE 6) bMb) (B.map fun p=>D.int (p.1:Int)) (SM x (.ro (dT q (dQ x i))) (.ro (.int i)) (.ow (dT qf F)) w5 w6)=.nx (SM x (.ro (dT q (dQ x i))) (.ro (.int i)) (.ow (dT q' (B.foldl (NX x) F))) u5 u6):=by
     intro B
     induction B with
     | nil=>intro F qf w5 w6 _ _ _; !⟨qf,w5,w6,rfl⟩
     | cons p B ih =>
      intro F qf w5 w6 o k hB
      have hp:=hB p List.mem_cons_self
      have hv:=get_mem oA.nd hp
      have inner:Nx (dE (aR (aA (bF aV (aA (aB 0) aE)) aE)) (lE 6) bMb (SM x (.ro (dT q (dQ x i))) (.ro (.int i)) (.ow (dT qf F)) (.ro (.int (p.1:Int))) w6)) fun ρ=>∃ q' u6,ρ=SM x (.ro (dT q (dQ x i))) (.ro (.int i)) (.ow (dT q' (NX x F p))) (.ro (.int (p.1:Int))) u6:=by
       @nZ x.length (fun b ρ=>∃ q' u6,ρ=SM x (.ro (dT q (dQ x i))) (.ro (.int i)) (.ow (dT q' (stN x F p.1 p.2 b))) (.ro (.int (p.1:Int))) u6) (args1 (dJ rfl dZ)) ° ⟨_,_,rfl⟩ (fun b ρ hb ⟨q',u6,e⟩=>?_) fun ρ h=>h
       subst e
       &⟨o1,k1,t1⟩:=IN (v:=p.2) o k (oA.lt p hp) (kA p hp) b °
       &⟨ρ1,e1,q1,e2⟩:=aB1 hx hn (A:=dQ x i) (F:=stN x F p.1 p.2 b) (qa:=q) (qf:=q') (S:=p.1) (b:=b) (v:=p.2) (s3:=.ro (.int i)) hv o1 hb
       !⟨_,rfl,ρ1,e1,q1,.ro (.int b),e2⟩
      &⟨ρ1,e1,q1,u6,e2⟩:=inner
      subst e2
      &⟨o1,k1,t1⟩:=aAV hx o k (oA.lt p hp) (kA p hp) hi
      &⟨q',u5,u6',e3⟩:=ih (NX x F p) q1 (.ro (.int (p.1:Int))) u6 o1 k1 fun r hr=>hB r (List.mem_cons_of_mem _ hr)
      @⟨q',u5,u6',?_⟩
      have e4:gU (lE 5) (dE (aR (aA (bF aV (aA (aB 0) aE)) aE)) (lE 6) bMb) ((p::B).map fun p=>D.int (p.1:Int)) (SM x (.ro (dT q (dQ x i))) (.ro (.int i)) (.ow (dT qf F)) w5 w6)=(match dE (aR (aA (bF aV (aA (aB 0) aE)) aE)) (lE 6) bMb (SM x (.ro (dT q (dQ x i))) (.ro (.int i)) (.ow (dT qf F)) (.ro (.int (p.1:Int))) w6) with
       | .nx ρ2=>gU (lE 5) (dE (aR (aA (bF aV (aA (aB 0) aE)) aE)) (lE 6) bMb) (B.map fun p=>D.int (p.1:Int)) ρ2
       | o=>o):=rfl
      rw [e4,e1]
      !e3
    &⟨q',u5,u6,e⟩:=hgo (dQ x i) [] vA v5 v6 ⟨List.nodup_nil,fun _ h=>by cases h⟩ (fun _ h=>by cases h) fun _ h=>h
    @⟨_,?_,q',u5,u6,rfl⟩
    show dE _ _ _ (SM x (.ro (dT q (dQ x i))) (.ro (.int i)) (.ow (dT vA [])) v5 v6)=_
    !RK _ (aBX (dQ x i) q) e
   ·subst e
    !⟨_,rfl,q',_,_,_,_,rfl⟩
  ·subst e
   @qG _ ?_ rfl
   have e1:aC fE (aC wK (eC (.int 1)) (bF aV (aA (aB 0) aE))) (eC (.int 1)) (bT (SM x (.ow (dT q (dQ x x.length))) v3 v4 v5 v6))=some (.int ((2 ^ x.length - 1:Nat):Int)):=by
    @aM (x:=.int ((2 ^ x.length:Nat):Int)) (y:=.int 1) (aM (x:=.int ((1:Nat):Int)) (y:=.int (x.length:Int)) rfl (dJ rfl dZ) (by rw [LK § °,LM])) rfl ?_
    rw [rO]
    have:=Nat.two_pow_pos x.length
    congr 2
    omega
   !aM (x:=dT q (dQ x x.length)) rfl e1 (aDv (aBZ hx))
 &⟨d,e,rfl⟩:=qH rfl main
 !e
end
section
variable {x:List (List Int)}
end
##xD {x:List (List Int)} (hx:Ord.Rows x) (hn:x.length<=9):∀ r∈x,r.length<=9:=fun r hr=>Nat.le_trans (Ord.Rows.short hx hr) hn
##aDz {f:EF} {i j:Nat} {ρ:aP} {p q:D} (h:f (kD ρ)=some (.tup [p,q])):HV (aZ f) (HK i j) ρ=.nx ((ρ.set i (.ro p)).set j (.ro q)):=by
 ~HV aZ
 rw [h]
 rfl
##YC {r l:List Int} (hr:r.Nodup) (hl:l.Nodup):sortI (r++l.filter fun t=>!r.contains t)=both r l:=by
 @E3 ?_ ((CZ r l).imp fun h=>by omega)
 @(List.perm_ext_iff_of_nodup ((CZ r l).imp fun h=>by omega) ?_).2 fun t=>?_
 ·rw [List.nodup_append]
  @⟨hr,List.Pairwise.filter _ hl,fun a ha b hb e=>?_⟩
  have:=(List.mem_filter.1 hb).2
  rw [<- e] at this
  simp [ha] at this
 ·rw [E7,List.mem_append,List.mem_filter]
  by_cases h:t∈r
  ·simp [h]
  ·simp [h]
##FJ {x:List (List Int)} (hx:Ord.Rows x) (hn:x.length<=9) {a b:Int} (ha:0<=a/\a<(x.length:Int)) (hb:0<=b/\b<(x.length:Int)):jZ [aJ x,.int a,.int b]=.ok (aJ (put x a b)):=by
 ~jZ
 have hs:=xD hx hn
 have rn:∀ c:Int,0<=c->c<(x.length:Int)->(row x c).Nodup/\(row x c).length<=9:=fun c h0 h1=>by
  have e:=XS.j0 h0 h1
  !⟨(hx.up _ _ e).imp fun q=>by omega,hs _ (List.mem_of_getElem? e)⟩
 have ra:=rn a ha.1 ha.2
 have hlow:(row x a++[a]).Nodup:=by
  rw [List.nodup_append]
  @⟨ra.1,by simp,fun s h1 t h2 e=>?_⟩
  rw [List.mem_singleton] at h2
  have:=hx.W4 a.toNat (row x a) (XS.j0 ha.1 ha.2)
  rw [show ((a.toNat:Nat):Int)=a by omega] at this
  !this (by rw [e,h2] at h1; !h1)
 have hpl:=dP x a b
 have main:Rt ((aH (aN 3 (aC bO (bF rM (aA (aC aY (aB 0) (aB 1)) aE)) (dL (aA (aB 1) aE))))
  (aH (iA 4 (dL aE))
  (aH (dE (aR (aA (bF aV (aA (aB 0) aE)) aE)) (lE 5)
   (aH (aN 6 (bF rM (aA (aC aY (aB 0) (aB 5)) aE)))
   (aH (eV (u4 (tV (aC kT (aB 5) (aB 2))) (tV (aC (lY false) (aB 2) (aC aY (aB 0) (aB 5)))))
    (aN 6 (aC bO (aB 6) (bJ 1 [6] (dD (aB 3)) (g1 0) (tV (aC (lY true) (aB 0) (aB 1))) (aB 0))))
    bY)
   (sX (kU 4 eX (aZ (bF bW (aA (bF gE (aA (aB 6) aE)) aE))))))))
  (aU (bF bW (aA (aB 4) aE)))))) (fA 7 [aJ x,.int a,.int b])) fun d=>d=aJ (put x a b):=by
  @cV [.ro (aJ x),.ro (.int a),.ro (.int b),.ro (aK (row x a++[a])),.no,.no,.no] (iE (aK (row x a++[a])) (aM (x:=aK (row x a)) (y:=aK [a]) (dJ (x:=tupI (row x a)) (aM (x:=aJ x) (y:=.int a) rfl rfl (kL ha.1 ha.2)) rfl) rfl (by ~aK; rw [kJ (by simp; omega),List.map_append])) rfl) ?_
  @cV [.ro (aJ x),.ro (.int a),.ro (.int b),.ro (aK (row x a++[a])),.ow (.lst []),.no,.no] rfl ?_
  @kK (fun ρ=>∃ v5 v6,ρ=[.ro (aJ x),.ro (.int a),.ro (.int b),.ro (aK (row x a++[a])),.ow (.lst (((put x a b).take x.length).map tupI)),v5,v6]) ?_ fun ρ ⟨v5,v6,e⟩=>?_
  ·@nZ x.length (fun i ρ=>∃ v5 v6,ρ=[.ro (aJ x),.ro (.int a),.ro (.int b),.ro (aK (row x a++[a])),.ow (.lst (((put x a b).take i).map tupI)),v5,v6]) (args1 (dJ rfl dZ)) ° ⟨_,_,rfl⟩ (fun i ρ hi ⟨v5,v6,e⟩=>?_) fun ρ h=>h
   subst e
   have ri:=rn i ° °
   have hrow:row (put x a b) (i:Int)=vB b (row x a++[a]) (row x i,i):=by
    have:=C0 (x:=x) (a:=a) (b:=b) (d:=(i:Int)) ° °
    rw [Int.toNat_natCast] at this
    !this
   @⟨[.ro (aJ x),.ro (.int a),.ro (.int b),.ro (aK (row x a++[a])),.ow (.lst (((put x a b).take i).map tupI)),.ro (.int i),v6],rfl,?_⟩
   @fN [.ro (aJ x),.ro (.int a),.ro (.int b),.ro (aK (row x a++[a])),.ow (.lst (((put x a b).take i).map tupI)),.ro (.int i),.ro (aK (row x i))] (iE (aK (row x i)) (dJ (x:=tupI (row x i)) (aM (x:=aJ x) (y:=.int i) rfl rfl (kL ° °)) rfl) rfl) ?_
   @tN (fun ρ=>∃ r:List Int,(r.length<64/\sortI r=row (put x a b) (i:Int))/\ρ=[.ro (aJ x),.ro (.int a),.ro (.int b),.ro (aK (row x a++[a])),.ow (.lst (((put x a b).take i).map tupI)),.ro (.int i),.ro (aK r)]) ?_ fun ρ ⟨r,hr,e⟩=>?_
   ·@jG (decide ((i:Int)=b)||(row x i).contains b) ?_ (fun hc=>?_) fun hc=>iS ⟨row x i,⟨by omega,?_⟩,rfl⟩
    ·@RP (b:=decide ((i:Int)=b)) (mZ (aM rfl rfl fV) rfl) (fun h=>?_) fun h=>by rw [h]; rfl
     rw [h,Bool.false_or]
     !mZ (aM (x:=.int b) (y:=tupI (row x i)) rfl (aM (x:=aJ x) (y:=.int i) rfl rfl (kL ° °)) pC) rfl
    ·have hfl:((row x a++[a]).filter fun t=>!(row x i).contains t).length<=10:=Nat.le_trans (List.length_filter_le _ _) (by rw [List.length_append]; simp; omega)
     @tO (aK (row x i++(row x a++[a]).filter fun t=>!(row x i).contains t)) (aM (x:=aK (row x i)) (y:=aK ((row x a++[a]).filter fun t=>!(row x i).contains t)) rfl ?_ ?_) ⟨_,⟨by rw [List.length_append]; omega,?_⟩,rfl⟩
     ·@mE ((row x a++[a]).map D.int) rfl (by rw [List.length_map,List.length_append]; simp; omega) ?_
      !jF D.int (fun t=>!(row x i).contains t) D.int _ fun t _=>⟨[some (.int t),some (aK (row x i))],rfl,mZ (aM rfl rfl LB) rfl,fun _=>rfl⟩
     ·~aK
      rw [kJ (by rw [List.length_map,List.length_map]; omega),List.map_append]
     ·rw [YC ri.1 hlow,hrow]
      ~vB
      rw [if_pos hc]
    ·rw [hrow]
     ~vB
     rw [if_neg (by rw [hc]; decide)]
     have e:=XS.j0 (x:=x) (b:=(i:Int)) ° °
     !E3 (List.Perm.refl _) ((hx.up _ _ e).imp fun q=>by omega)
   ·subst e
    @⟨_,NS (d:=tupI (row (put x a b) i)) (ds:=((put x a b).take i).map tupI) (dJ (x:=aK (row (put x a b) i)) (dJ (x:=aK r) rfl (by rw [<- hr.2]; !sorted_ints hr.1)) rfl) rfl (by rw [List.length_map,List.length_take]; omega),.ro (.int i),.ro (aK r),?_⟩
    have e6:(put x a b).take (i+1)=(put x a b).take i++[row (put x a b) i]:=by
     rw [List.take_succ]
     have:=XS.j0 (x:=put x a b) (b:=(i:Int)) ° (by rw [hpl]; omega)
     rw [Int.toNat_natCast] at this
     rw [this]
     rfl
    rw [e6,List.map_append]
    rfl
  ·subst e
   rw [List.take_of_length_le (by rw [hpl]; !Nat.le_refl _)]
   !qG _ rfl rfl
 &⟨d,e,rfl⟩:=qH rfl main
 !e
section
variable {x:List (List Int)}
end
end LL
end
section
namespace LL
open PySem L3 L4
def eP:eT:=bK 1 1
  (aU (aC tL (aB 0) (eC (.int 9))))
def eB:eT:=bK 3 2
  (aH (dE (dD (aB 1)) (lE 2)
   (eV (hZ (tV (bF allM (aA (bJ 1 [1] (dD (aC aY (aB 0) (aB 2))) (g1 0) cH (aC (lY false) (aB 0) (aB 1))) aE))))
    (aU (eC (.bl false)))
    bY))
  (aU (eC (.bl true))))
def mG:eT:=bK 3 2
  (aH (aN 2 (aC aY (aB 0) (aB 1)))
  (aU (kE (aG LL.gW (aA (aB 2) (aA (bF aV (aA (aB 0) aE)) aE))) (kE (aC (lY true) (aB 1) (aB 2)) (aG LL.eB (aA (aB 0) (aA (aB 2) aE)))))))
def iW:eT:=bK 1 1
  (aH (eV (tV (aG LL.eP (aA (bF aV (aA (aB 0) aE)) aE)))
   (aU (eC (.bl false)))
   bY)
  (aU (bF allM (aA (bJ 1 [0] (aR (aA (bF aV (aA (aB 0) aE)) aE)) (g1 0) cH (aG LL.mG (aA (aB 1) (aA (aB 0) aE)))) aE))))
def BB:eT:=bK 3 3
  (aH (wJ (wH LL.bA (aA (bF aV (aA (aB 0) aE)) (aA (aB 1) (aA (aB 2) aE)))) (sX (aZ (aG LL.bA (aA (bF aV (aA (aB 0) aE)) (aA (aB 1) (aA (aB 2) aE)))))))
  (aH (eV (hZ (tV (aG LL.cK (aA (aB 0) (aA (aB 1) (aA (aB 2) aE))))))
   (rN (aA (eC (.str "two things that are not loose")) aE) "NotLoose")
   bY)
  (wJ (wH LL.eW (aA (aB 0) (aA (aB 1) (aA (aB 2) aE)))) (aU (dG (aA (aG LL.eW (aA (aB 0) (aA (aB 1) (aA (aB 2) aE)))) (aA (aG LL.eW (aA (aB 0) (aA (aB 2) (aA (aB 1) aE)))) aE)))))))
def gC:eT:=bK 2 2
  (aU (kE (aC kT (bF aV (aA (aB 0) aE)) (aB 1)) (aG LL.iW (aA (aB 0) aE))))
def dR:eT:=bK 3 3
  (aU (kE (aG LL.dA (aA (aB 1) (aA (bF aV (aA (aB 0) aE)) aE))) (kE (aG LL.dA (aA (aB 2) (aA (bF aV (aA (aB 0) aE)) aE))) (aG LL.cK (aA (aB 0) (aA (aB 1) (aA (aB 2) aE)))))))
def gX:eT:=bK 4 2
  (aH (aN 2 (aC aY (aC aY (aB 0) (aB 1)) (eC (.int 0))))
  (aH (aN 3 (aC aY (aC aY (aB 0) (aB 1)) (eC (.int 1))))
  (aH (eV (hZ (tV (aG LL.fH (aA (aB 2) aE))))
   (aU (aC qE (aB 3) (dG aE)))
   bY)
  (aH (eV (u4 (tV (aC KU (bF aV (aA (aB 3) aE)) (eC (.int 4)))) (hZ (tV (aG LL.dR (aA (aB 2) (aA (aC aY (aB 3) (eC (.int 0))) (aA (aC aY (aB 3) (eC (.int 1))) aE)))))))
   (aU (eC (.bl false)))
   bY)
  (aH (eV (hZ (kX (tV (kF W9 W2 (eC (.int 0)) (aC aY (aB 3) (eC (.int 2))) (aB 1))) (tV (kF W9 W2 (eC (.int 0)) (aC aY (aB 3) (eC (.int 3))) (aB 1)))))
   (aU (eC (.bl false)))
   bY)
  (aU (aC qE (aG LL.BB (aA (aB 2) (aA (aC aY (aB 3) (eC (.int 0))) (aA (aC aY (aB 3) (eC (.int 1))) aE)))) (dG (aA (aC aY (aC aY (aB 0) (aC aY (aB 3) (eC (.int 2)))) (eC (.int 0))) (aA (aC aY (aC aY (aB 0) (aC aY (aB 3) (eC (.int 3)))) (eC (.int 0))) aE))))))))))
def fW:eT:=bK 2 2
  (aH (eV (u4 (hZ (tV (aB 1))) (tV (aC EV (aC aY (aC aY (aB 1) (mW (eC (.int 1)))) (eC (.int 0))) (aB 0))))
   (aU (eC (.bl false)))
   bY)
  (aU (bF allM (aA (bJ 2 [1,0] (nV (aA (aB 1) aE)) (g2 0 1) cH (kE (aG LL.gC (aA (aC aY (aB 1) (eC (.int 0))) (aA (bF aV (aA (aB 3) aE)) aE))) (aG LL.gX (aA (aB 2) (aA (aB 0) aE))))) aE))))
def iX:eT:=bK 4 1
  (aH (iA 1 (dL aE))
  (aH (dE (aR (aA (bF aV (aA (aB 0) aE)) aE)) (lE 2)
   (dE (aR (aA (aC bO (aB 2) (eC (.int 1))) (aA (bF aV (aA (aB 0) aE)) aE))) (lE 3)
    (eV (kX (tV (aC (lY true) (aB 2) (aC aY (aB 0) (aB 3)))) (tV (aC (lY true) (aB 3) (aC aY (aB 0) (aB 2)))))
     (sX (kU 1 eX (aZ (dG (aA (aB 2) (aA (aB 3) aE))))))
     bY)))
  (aU (aB 1))))
def fX:eT:=bK 12 2
  (aH (iA 2 (dL aE))
  (aH (EX 3)
  (aH (iA 4 (dL (aA (aB 0) aE)))
  (aH (CJ 3000000 (tV (aC tL (bF aV (aA (aB 4) aE)) (eC (.int 0))))
   (aH (uL 5 (fZ (aC aY (aB 4) (mW (eC (.int 1))))))
   (aH (aN 6 (aG LL.iX (aA (aB 5) aE)))
   (eV (tV (aC (zM false) (aB 5) (aB 3)))
    (sX (AN 4))
    (eV (tV (aC kT (bF aV (aA (aB 6) aE)) (eC (.int 0))))
     (aH (mC 3 (fZ (bF aV (aA (aB 2) aE))) (aB 5))
     (sX (kU 2 eX (aZ (dG (aA (aB 5) (aA (dG aE) aE)))))))
     (aH (aN 7 (aC aY (aB 1) (aC dI (bF u7 (aA (bJ 1 [] (dD (aB 5)) (g1 0) cH (bF aV (aA (aB 0) aE))) aE)) (bF aV (aA (aB 1) aE)))))
     (aH (HV (aZ (aC aY (aB 6) (aC dI (aB 7) (bF aV (aA (aB 6) aE))))) (HK 8 9))
     (aH (eV (tV (aC kT (aC dI (aC mX (aB 7) (eC (.int 7))) (eC (.int 2))) (eC (.int 1))))
      (ND 8 9 (aA (aB 9) (aA (aB 8) aE)))
      bY)
     (aH (aN 10 (dL (aA (aG LL.jZ (aA (aB 5) (aA (aB 8) (aA (aB 9) aE)))) (aA (aG LL.jZ (aA (aB 5) (aA (aB 9) (aA (aB 8) aE)))) aE))))
     (aH (lZ 11 (bJ 1 [3] (dD (aB 10)) (g1 0) (tV (aC (zM true) (aB 0) (aB 1))) (aB 0)))
     (eV (tV (aC tL (bF aV (aA (aB 11) aE)) (eC (.int 0))))
      (sX (kU 4 eX (aZ (aC aY (aB 11) (aC dI (aC mX (aB 7) (eC (.int 16))) (bF aV (aA (aB 11) aE)))))))
      (aH (mC 3 (fZ (bF aV (aA (aB 2) aE))) (aB 5))
      (sX (kU 2 eX (fZ (dG (aA (aB 5) (aA (dG (aA (aB 8) (aA (aB 9) (aA (aC pS (aB 3) (aC aY (aB 10) (eC (.int 0)))) (aA (aC pS (aB 3) (aC aY (aB 10) (eC (.int 1)))) aE))))) aE))))))))))))))))))
  (aU (aB 2))))))
def iY:eT:=bK 8 3
  (aH (aN 3 (aG LL.bX (aA (aG LL.cM (aA (aB 0) (aA (aB 1) aE))) (aA (eC (.int 3)) (aA (aB 2) aE)))))
  (aH (aN 4 (aC aY (dL (aA (eC (.int 5)) (aA (eC (.int 4)) (aA (eC (.int 3)) (aA (eC (.int 5)) (aA (eC (.int 4)) (aA (eC (.int 2)) (aA (eC (.int 1)) (aA (eC (.int 0)) aE))))))))) (aC dI (aC aY (aB 3) (eC (.int 0))) (eC (.int 8)))))
  (aH (aN 5 (aC aY (dL (aA (eC (.int 1)) (aA (eC (.int 1)) (aA (eC (.int 2)) (aA (eC (.int 2)) (aA (eC (.int 3)) (aA (eC (.int 1)) (aA (eC (.int 0)) (aA (eC (.int 2)) aE))))))))) (aC dI (aC aY (aB 3) (eC (.int 1))) (eC (.int 8)))))
  (aH (eV (tV (aC kT (aC dI (aC aY (aB 3) (eC (.int 2))) (eC (.int 8))) (eC (.int 3))))
   (aH (aN 4 (aC bO (eC (.int 6)) (aC dI (aC aY (aB 3) (eC (.int 0))) (eC (.int 4)))))
   (aN 5 (eC (.int 3))))
   bY)
  (aH (aN 6 (aG LL.bX (aA (aG LL.cM (aA (aB 0) (aA (aC bO (aB 1) (eC (.int 1))) aE))) (aA (aC bO (aB 4) (aC mX (aC mulM (aB 4) (aC fE (aB 4) (eC (.int 1)))) (eC (.int 2)))) (aA (aC bO (aB 2) (eC (.int 10007))) aE)))))
  (aH (aN 7 (aG LL.dM (aA (aB 6) (aA (aB 4) (aA (aB 5) aE)))))
  (aH (eV (kX (tV (aC tL (aB 4) (eC (.int 5)))) (tV (aC tL (aG LL.gB (aA (aB 7) aE)) (eC (.int 60)))))
   (aN 7 (aG LL.dM (aA (aB 6) (aA (aB 4) (aA (eC (.int 4)) aE)))))
   bY)
  (aU (aB 7)))))))))
def iZ:eT:=bK 5 2
  (aH (iA 2 (dL aE))
  (aH (dE (dD (aB 0)) (HK 3 4)
   (aH (eV (tV (aC tL (bF aV (aA (aB 4) aE)) (eC (.int 0))))
    (aN 4 (dG (aA (aC aY (aB 4) (eC (.int 0))) (aA (aC aY (aB 4) (eC (.int 1))) (aA (aC bO (aC aY (aB 4) (eC (.int 2))) (aB 1)) (aA (aC bO (aC aY (aB 4) (eC (.int 3))) (aB 1)) aE))))))
    bY)
   (sX (kU 2 eX (aZ (dG (aA (aB 3) (aA (aB 4) aE))))))))
  (aU (aB 2))))
def cJ:eT:=bK 2 2
  (aU (bF K5 (aA (bJ 1 [0,1] (aR (aA (aC fE (bF aV (aA (aB 0) aE)) (eC (.int 1))) aE)) (g1 0) (tV (aC qE (aC aY (aC aY (aB 1) (aB 0)) (eC (.int 0))) (aC aY (aC aY (aB 1) (aB 2)) (eC (.int 0))))) (aB 0)) aE)))
def i0:eT:=bK 9 1
  (aH (aN 1 (aG LL.iY (aA (aB 0) (aA (eC (.int 0)) (aA (eC (.int 100003)) aE)))))
  (aH (aN 2 (aG LL.bX (aA (aG LL.cM (aA (aB 0) (aA (eC (.int 2)) aE))) (aA (eC (.int 45)) (aA (eC (.int 200017)) aE)))))
  (aH (aN 3 (aG LL.bX (aA (aG LL.cM (aA (aB 0) (aA (eC (.int 3)) aE))) (aA (eC (.int 7)) (aA (eC (.int 300007)) aE)))))
  (aH (aN 4 (aG LL.fX (aA (aB 1) (aA (aB 2) aE))))
  (aH (eV (tV (aC kT (aC dI (aC aY (aB 3) (eC (.int 0))) (eC (.int 3))) (eC (.int 1))))
   (aH (aN 5 (aG LL.dM (aA (aC bO (K0 (aB 3) (oE (eC (.int 1))) (oE (eC (.int 5)))) (aB 2)) (aA (bF aV (aA (aB 1) aE)) (aA (eC (.int 3)) aE)))))
   (eV (tV (aC W9 (aC bO (aC mulM (eC (.int 2)) (aG LL.gB (aA (aB 5) aE))) (bF aV (aA (aB 4) aE))) (eC (.int 280))))
    (aH (aN 6 (aG LL.fX (aA (aB 5) (aA (aB 2) aE))))
    (aN 4 (aC bO (aB 6) (aG LL.iZ (aA (aB 4) (aA (bF aV (aA (aB 6) aE)) aE))))))
    bY))
   bY)
  (aH (iA 7 (bJ 1 [4,3] (aR (aA (aC dI (aC aY (aB 3) (eC (.int 3))) (eC (.int 4))) aE)) (g1 0) cH (aC aY (aB 1) (aC dI (aC bO (aC aY (aB 2) (eC (.int 1))) (aC mulM (aB 0) (aC aY (aB 2) (eC (.int 2))))) (bF aV (aA (aB 1) aE))))))
  (aH (aN 8 (aC aY (aC aY (aB 4) (mW (eC (.int 1)))) (eC (.int 1))))
  (aH (eV (kX (tV (aC tL (bF aV (aA (aB 8) aE)) (eC (.int 0)))) (tV (aC kT (aC dI (aC aY (aB 3) (eC (.int 5))) (eC (.int 2))) (eC (.int 1)))))
   (sX (kU 7 eX (aZ (aC aY (aB 4) (aC aY (aB 8) (aC bO (eC (.int 2)) (aC dI (aC aY (aB 3) (eC (.int 6))) (eC (.int 2)))))))))
   bY)
  (aH (lZ 4 (aC ES (aC bO (K0 (aB 4) W3 (oE (mW (eC (.int 1))))) (aB 7)) (K0 (aB 4) (oE (mW (eC (.int 1)))) W3)))
  (aH (eV (kX (tV (aC tL (bF aV (aA (aB 8) aE)) (eC (.int 0)))) (tV (aC kT (aC dI (aC mX (aC aY (aB 3) (eC (.int 5))) (eC (.int 2))) (eC (.int 2))) (eC (.int 1)))))
   (aN 8 (dG (aA (aC aY (aB 8) (eC (.int 0))) (aA (aC aY (aB 8) (eC (.int 1))) (aA (aG LL.cJ (aA (aB 4) (aA (aC aY (aB 8) (eC (.int 2))) aE))) (aA (aG LL.cJ (aA (aB 4) (aA (aC aY (aB 8) (eC (.int 3))) aE))) aE))))))
   bY)
  (aU (dG (aA (aB 1) (aA (aC bO (K0 (aB 4) W3 (oE (mW (eC (.int 1))))) (dL (aA (dG (aA (aC aY (aC aY (aB 4) (mW (eC (.int 1)))) (eC (.int 0))) (aA (aB 8) aE))) aE))) aE))))))))))))))
end LL
end
section
namespace LL
open PySem L3 L4 K24
##SN {x:List (List Int)} {p:Int×Int} (h:p∈loose x):(0<=p.1/\p.1<(x.length:Int))/\(0<=p.2/\p.2<(x.length:Int))/\fM x p.1 p.2=true:=by
 ~loose at h
 &⟨a,ha,hp⟩:=List.mem_flatMap.1 h
 ~cZ at hp
 &⟨b,hb,rfl⟩:=List.mem_map.1 hp
 have h1:=cB.1 ha
 have h2:=List.mem_filter.1 hb
 have h3:=cB.1 h2.1
 !⟨by dsimp only; omega,by dsimp only; omega,h2.2⟩
##tY (x:List (List Int)):∀ k,k<=x.length->((bG 0 k).flatMap (cZ x)).length<=k*x.length
 | 0,_=>by simp [bG]
 | k+1,h=>by
  have ih:=tY x k °
  have h2:=n4 x (a:=0+(k:Int)) °
  rw [iQ,List.flatMap_append,List.length_append,Nat.succ_mul]
  simp only [List.flatMap_cons,List.flatMap_nil,List.append_nil]
  omega
##IP {x:List (List Int)} (hn:x.length<=9):iX [aJ x]=.ok (.lst ((loose x).map pairD)):=by
 ~iX
 have main:Rt ((aH (iA 1 (dL aE))
  (aH (dE (aR (aA (bF aV (aA (aB 0) aE)) aE)) (lE 2)
   (dE (aR (aA (aC bO (aB 2) (eC (.int 1))) (aA (bF aV (aA (aB 0) aE)) aE))) (lE 3)
    (eV (kX (tV (aC (lY true) (aB 2) (aC aY (aB 0) (aB 3)))) (tV (aC (lY true) (aB 3) (aC aY (aB 0) (aB 2)))))
     (sX (kU 1 eX (aZ (dG (aA (aB 2) (aA (aB 3) aE))))))
     bY)))
  (aU (aB 1)))) (fA 4 [aJ x])) fun d=>d=.lst ((loose x).map pairD):=by
  @cV [.ro (aJ x),.ow (.lst []),.no,.no] rfl ?_
  @kK (fun ρ=>∃ v2 v3,ρ=[.ro (aJ x),.ow (.lst ((loose x).map pairD)),v2,v3]) ?_ fun ρ ⟨v2,v3,e⟩=>by subst e; !qG _ rfl rfl
  @nZ x.length (fun i ρ=>∃ v2 v3,ρ=[.ro (aJ x),.ow (.lst (((bG 0 i).flatMap (cZ x)).map pairD)),v2,v3]) (args1 (dJ rfl dZ)) ° ⟨_,_,rfl⟩ (fun i ρ hi ⟨v2,v3,e⟩=>?_) fun ρ h=>h
  subst e
  @⟨[.ro (aJ x),.ow (.lst (((bG 0 i).flatMap (cZ x)).map pairD)),.ro (.int i),v3],rfl,?_⟩
  have hl0:=tY x i °
  have hl1:i*x.length<=9*9:=Nat.mul_le_mul ° hn
  generalize hA:(bG 0 i).flatMap (cZ x)=A at hl0
  have hnext:(bG 0 (i+1)).flatMap (cZ x)=A++cZ x i:=by
   rw [iQ,List.flatMap_append,hA,Int.zero_add]
   simp
  rw [hnext]
  have hm:((x.length:Int) - ((i:Int)+1)).toNat=x.length - (i+1):=by omega
  let R:Nat->List (Int×Int):=fun j=>((bG ((i:Int)+1) j).filter fun b=>fM x i b).map fun b=>((i:Int),b)
  @CV ((bG ((i:Int)+1) (x.length - (i+1))).map D.int) (fun j ρ=>∃ v3,ρ=[.ro (aJ x),.ow (.lst ((A++R j).map pairD)),.ro (.int i),v3]) ?_ ⟨v3,by simp [R,bG]⟩ (fun j d ρ hd ⟨v3,e⟩=>?_) fun ρ ⟨v3,e⟩=>⟨.ro (.int i),v3,?_⟩
  ·have:=aAS (a:=aC bO (aB 2) (eC (.int 1))) (b:=bF aV (aA (aB 0) aE)) (ρ:=kD [.ro (aJ x),.ow (.lst (A.map pairD)),.ro (.int i),v3]) (i:=(i:Int)+1) (j:=(x.length:Int)) rfl (dJ rfl dZ) ° °
   rw [this,hm]
  ·subst e
   have hj:j<x.length - (i+1):=by
    have:=(List.getElem?_eq_some_iff.1 hd).1
    simpa [aQ] using this
   rw [List.getElem?_map,nY hj] at hd
   cases hd
   obtain ⟨b,hb⟩:∃ b:Int,(i:Int)+1+(j:Int)=b:=⟨_,rfl⟩
   rw [hb]
   have hlb:fM x i b=(!(row x b).contains (i:Int) && !(row x i).contains b):=by
    ~fM
    rw [decide_eq_false °]; skip
    rfl
   have hRs:R (j+1)=R j++(if fM x i b=true then [((i:Int),b)] else []):=by
    show ((bG ((i:Int)+1) (j+1)).filter fun b=>fM x i b).map _=_
    rw [iQ,hb,List.filter_append,List.map_append]
    congr 1
    by_cases h:fM x i b=true
    ·rw [if_pos h,List.filter_cons_of_pos h]; rfl
    ·rw [if_neg h,List.filter_cons_of_neg h]; rfl
   have hRl:(R j).length<=9:=by
    show (((bG ((i:Int)+1) j).filter _).map _).length<=9
    rw [List.length_map]
    @Nat.le_trans (List.length_filter_le _ _) ?_
    rw [aQ]
    omega
   @⟨[.ro (aJ x),.ow (.lst ((A++R j).map pairD)),.ro (.int i),.ro (.int b)],rfl,?_⟩
   @jG (fM x i b) ?_ (fun hc=>?_) fun hc=>iS ⟨.ro (.int b),?_⟩
   ·rw [hlb]
    @AU (b:=!(row x b).contains (i:Int)) (mZ (aM (x:=.int i) (y:=tupI (row x b)) rfl (aM (x:=aJ x) (y:=.int b) rfl rfl (kL ° °)) pC) rfl) (fun h=>?_) fun h=>by rw [h]; rfl
    rw [h,Bool.true_and]
    !mZ (aM (x:=.int b) (y:=tupI (row x i)) rfl (aM (x:=aJ x) (y:=.int i) rfl rfl (kL ° °)) pC) rfl
   ·@⟨_,NS (d:=pairD ((i:Int),b)) (ds:=(A++R j).map pairD) rfl rfl (by rw [List.length_map,List.length_append]; omega),.ro (.int b),?_⟩
    rw [hRs,if_pos hc,<- List.append_assoc,List.map_append (l₁:=A++R j)]
    rfl
   ·rw [hRs,if_neg (by rw [hc]; decide),List.append_nil]
  ·rw [e,List.length_map,aQ]
   show [Sv.ro (aJ x),Sv.ow (.lst ((A++R (x.length - (i+1))).map pairD)),Sv.ro (.int i),v3]=_
   ~cZ
   rw [hm]
 &⟨d,e,rfl⟩:=qH rfl main
 !e
##aB2 {x:List (List Int)} {a b:Int} (hx:Ord.Rows x) (hn:x.length<=9) (ha:thing x.length a=true) (hb:thing x.length b=true) (h:fM x a b=true) (hl:nL x a b=false/\nL x b a=false):BB [aJ x,.int a,.int b]=.ok (.tup [aJ (put x a b),aJ (put x b a)]):=by
 ~BB
 have e1:=RX ° (xD hx hn) ha hb hl.1
 have e2:=RX ° (xD hx hn) hb ha hl.2
 @jP rfl (fF _ (aDr rfl ha hb) (fF _ (NJ (XQ (b:=true) (mZ (fL rfl rfl rfl (m9 (fI.mp ha) (fI.mp hb))) (by rw [h]; rfl)) rfl) rfl) ?_))
 ~wJ
 rw [rc3 (o:=none) rfl rfl rfl (by rw [e1]; rfl)]
 @kH ?_
 ~dG
 rw [args2 (fL rfl rfl rfl e1) (fL rfl rfl rfl e2)]
 rfl
##pE {x:List (List Int)} {a b:Int} (h:fM x a b=true):fM x b a=true/\(a≠b)/\nL x a b=false/\nL x b a=false:=by
 ~fM at h ⊢
 ~nL
 simp only [Bool.and_eq_true,Bool.not_eq_true',decide_eq_false_iff_not] at h ⊢
 &⟨h1,h2,h3⟩:=h
 rw [h2,h3]
 simp only [Bool.or_false,decide_eq_false_iff_not]
 !⟨⟨Ne.symm h1,trivial,trivial⟩,h1,h1,Ne.symm h1⟩
abbrev PR:=List (List Int)×List Int
def aO (r:PR):D:=.tup [aJ r.1,tupI r.2]
def kO (x:List (List Int)):vO:=.inr (x.map fun r=>Sum.inr (r.map Sum.inl))
##LR:∀ x:List (List Int),tM (x.map tupI)=some (x.map fun r=>Sum.inr (r.map Sum.inl))
 | []=>rfl
 | r::x=>by
  have ih:=LR x
  show ((AO (r.map D.int)).map Sum.inr).bind (fun k=>(tM (x.map tupI)).map (k :: ·))=_
  rw [A4,ih]
  rfl
##SQ (x:List (List Int)):nW (aJ x)=some (kO x):=by
 show (tM (x.map tupI)).map Sum.inr=_
 rw [LR]
 rfl
##map_inj {α β:Type} {f:α->β} (hf:∀ a b,f a=f b->a=b):∀ {l m:List α},l.map f=m.map f->l=m
 | [],[],_=>rfl
 | [],_::_,h=>by simp at h
 | _::_,[],h=>by simp at h
 | a::l,b::m,h=>by
  rw [List.map_cons,List.map_cons,List.cons.injEq] at h
  rw [hf a b h.1,map_inj hf h.2]
##SR {x y:List (List Int)} (h:kO x=kO y):x=y:=by
 @map_inj (fun a b e=>?_) (Sum.inr.inj h)
 !C6 (Sum.inr.inj e)
##aAW:∀ x:List (List Int),kW (x.map tupI)=true
 | []=>rfl
 | r::x=>by
  rw [List.map_cons,kW,aAW x,tupI,D.vN,j4]
  rfl
##xE (x:List (List Int)):(aJ x).vN=true:=aAW x
##SS:∀ W:List (List (List Int)),kW (W.map aJ)=true
 | []=>rfl
 | x::W=>by
  rw [List.map_cons,kW,SS W,xE]
  rfl
##FK (r:PR):(aO r).vN=true:=by
 show (kW [aJ r.1,tupI r.2])=true
 simp only [kW,xE,tupI,D.vN,j4]
 rfl
def mV (R:List PR):KD:=(R.map fun r=>kO r.1,(bG 0 R.length).map D.int)
def IQ (R:List PR) (y:List (List Int)):Option Nat:=R.findIdx? fun r=>decide (r.1=y)
##LS (y:List (List Int)):∀ (R:List PR) (lo:Int),cP (R.map fun r=>kO r.1) ((bG lo R.length).map D.int) (kO y)=(R.findIdx? fun r=>decide (r.1=y)).map fun i:Nat=>D.int (lo+(i:Int))
 | [],lo=>rfl
 | r::R,lo=>by
  have ih:=LS y R (lo+1)
  have e:bG lo (r::R).length=lo::bG (lo+1) R.length:=by
   ~bG
   rw [List.length_cons,List.range_succ_eq_map,List.map_cons,List.map_map]
   congr 1
   ·simp
   ·@List.map_congr_left fun k _=>?_
    show lo+((k+1:Nat):Int)=lo+1+(k:Int)
    omega
  rw [e,List.map_cons,List.map_cons]
  ~cP at ih ⊢
  rw [List.zip_cons_cons,List.find?_cons,List.findIdx?_cons]
  by_cases h:r.1=y
  ·rw [show decide ((kO r.1,D.int lo).1=kO y)=true from decide_eq_true (by show kO r.1=kO y; rw [h]),decide_eq_true h]
   show some (D.int lo)=some (D.int (lo+((0:Nat):Int)))
   congr 2
   omega
  ·rw [show decide ((kO r.1,D.int lo).1=kO y)=false from decide_eq_false fun q=>h (SR q),decide_eq_false h]
   dsimp only
   rw [ih]
   cases R.findIdx? fun r=>decide (r.1=y) with
   | none=>rfl
   | some i =>
    show some (D.int (lo+1+(i:Int)))=some (D.int (lo+((i+1:Nat):Int)))
    congr 2
    omega
##SU (R:List PR) (y:List (List Int)):cP (mV R).1 (mV R).2 (kO y)=(IQ R y).map fun i:Nat=>D.int (i:Int):=by
 have:=LS y R 0
 ~mV IQ
 rw [this]
 congr 1
 funext i
 rw [Int.zero_add]
##IR (R:List PR) (y:List (List Int)):kindB (mV R).1 (kO y)=true:=by
 ~kindB mV
 rw [List.all_eq_true]
 intro q hq
 &⟨r,_,rfl⟩:=List.mem_map.1 hq
 rfl
def dH (R:List PR) (y:List (List Int)):Bool:=R.any fun r=>decide (r.1=y)
##gD {R:List PR} {y:List (List Int)}:dH R y=true ↔ ∃ r∈R,r.1=y:=by
 ~dH
 rw [List.any_eq_true]
 !⟨fun ⟨r,h,e⟩=>⟨r,h,¥e⟩,fun ⟨r,h,e⟩=>⟨r,h,¥e⟩⟩
##n8 {R:List PR} {y:List (List Int)}:(IQ R y).isSome=dH R y:=by
 ~IQ dH
 rw [List.findIdx?_isSome]
##DD {R:List PR} {y:List (List Int)} {i:Nat} (h:IQ R y=some i):∃ r,R[i]? = some r/\r.1=y:=by
 ~IQ at h
 &⟨hi,hp,_⟩:=List.findIdx?_eq_some_iff_getElem.1 h
 !⟨R[i],List.getElem?_eq_getElem hi,¥hp⟩
##SV {R:List PR} {y:List (List Int)} {i:Nat} (h:IQ R y=some i):i<R.length:=by
 &⟨r,hr,_⟩:=DD h
 !(List.getElem?_eq_some_iff.1 hr).1
##LU {R S:List PR} {y:List (List Int)} {i:Nat} (h:IQ R y=some i):IQ (R++S) y=some i:=by
 ~IQ at h ⊢
 rw [List.findIdx?_append,h]
 rfl
##aEA {R:List PR} {y:List (List Int)} (w:List Int) (h:dH R y=false):fO (mV R).1 (mV R).2 (kO y) (.int R.length)=mV (R++[(y,w)]):=by
 ~fO
 rw [if_neg]
 ·~mV
  rw [List.map_append,List.length_append,List.length_cons,List.length_nil,Nat.zero_add,iQ,List.map_append]
  show (_,_++[D.int R.length])=(_,_++[D.int (0+(R.length:Int))])
  rw [Int.zero_add]
  rfl
 ·intro q
  rw [List.any_eq_true] at q
  &⟨k,hk,e⟩:=q
  &⟨r,hr,rfl⟩:=List.mem_map.1 (show k∈R.map fun r=>kO r.1 from hk)
  have:dH R y=true:=gD.2 ⟨r,hr,SR (¥e)⟩
  rw [this] at h
  cases h
structure p5 (n:Nat) (R:List PR) (i:Nat) (r:PR):Prop where
 rows:Ord.Rows r.1
 len:r.1.length=n
 why:(loose r.1=[]/\r.2=[]) \/ ∃ (a b:Int) (p q:Nat) (u v:PR),loose r.1≠[]/\r.2=[a,b,(p:Int),(q:Int)]/\(0<=a/\a<(n:Int))/\(0<=b/\b<(n:Int))/\fM r.1 a b=true/\p<i/\q<i/\R[p]? = some u/\u.1=put r.1 a b/\R[q]? = some v/\v.1=put r.1 b a
def GoodR (n:Nat) (R:List PR):Prop:=∀ (i:Nat) (r:PR),R[i]? = some r->p5 n R i r
##vT {R S:List PR} {i:Nat} {r:PR} (h:R[i]? = some r):(R++S)[i]? = some r:=by
 rw [List.getElem?_append_left (List.getElem?_eq_some_iff.1 h).1]
 !h
##p5.app {n:Nat} {R S:List PR} {i j:Nat} {r:PR} (h:p5 n R i r) (hij:i<=j):p5 n (R++S) j r:=by
 @⟨h.rows,h.len,?_⟩
 rcases h.why with z | ⟨a,b,p,q,u,v,h0,h1,h2,h3,h4,h5,h6,h7,h8,h9,h10⟩
 ·!.inl z
 ·!.inr ⟨a,b,p,q,u,v,h0,h1,h2,h3,h4,by omega,by omega,vT h7,h8,vT h9,h10⟩
##GoodR.snoc {n:Nat} {R:List PR} {r:PR} (g:GoodR n R) (h:p5 n R R.length r):GoodR n (R++[r]):=fun i s hs=>by
 by_cases hi:i<R.length
 ·rw [List.getElem?_append_left hi] at hs
  !(g i s hs).app (Nat.le_refl _)
 ·have:=(List.getElem?_eq_some_iff.1 hs).1
  rw [List.length_append,List.length_cons,List.length_nil] at this
  have e:i=R.length:=by omega
  subst e
  rw [List.getElem?_append_right (Nat.le_refl _),Nat.sub_self] at hs
  cases hs
  !h.app (Nat.le_refl _)
def gl (x:List (List Int)):Nat:=(gls x x.length).length
##xF {x:List (List Int)} (hx:Ord.Rows x):1<=gl x:=by
 have h1:=qM hx
 have h2:=LO (x:=x)
 ~gl
 omega
##aB3 {x:List (List Int)} {a b:Int} (hab:a≠b) (ha:0<=a/\a<(x.length:Int)) (hb:0<=b/\b<(x.length:Int)):gl x=gl (put x a b)+gl (put x b a):=by
 have hp:(gls x x.length).Perm (gls (put x a b) x.length++gls (put x b a) x.length):=by
  @(List.perm_ext_iff_of_nodup (DA _) ?_).2 fun w=>?_
  ·rw [List.nodup_append]
   @⟨DA _,DA _,fun w h1 w' h2 e=>?_⟩
   subst e
   have o1:=vS hb h1
   have o2:=vS ha h2
   !X8 (rY (j5 o1.1).2).1 o1.2 o2.2
  ·rw [List.mem_append]
   @⟨fun h=>?_,fun h=>?_⟩
   ·rcases aBY hab ha hb h with z | z
    ·!.inl (SG ha hb h z)
    ·!.inr (SG hb ha h z)
   ·rcases h with z | z
    ·!(vS hb z).1
    ·!(vS ha z).1
 ~gl
 rw [hp.length_eq,List.length_append,dP,dP]
def aB4:Nat->Nat->Nat
 | _,0=>1
 | n,i+1=>aB4 n i*(n - i)
##LV {x:List (List Int)}:∀ i:Nat,(gls x i).length<=aB4 x.length i
 | 0=>Nat.le_refl 1
 | i+1=>by
  have ih:=LV (x:=x) i
  have go:∀ L:List (List Int),(∀ w∈L,w∈gls x i)->(L.flatMap fun w=>(bL x w).map fun t=>w++[t]).length<=L.length*(x.length - i):=by
   intro L
   induction L with
   | nil=>intro _; simp
   | cons w L ihL =>
    intro h
    have hw:=j5 (h w List.mem_cons_self)
    have nd:=rY hw.2
    have hf:=NP (x:=x) (a:=w) ⟨nd.1,nd.2⟩
    have:=ihL fun u hu=>h u (List.mem_cons_of_mem _ hu)
    rw [List.flatMap_cons,List.length_append,List.length_map,List.length_cons,Nat.add_mul]
    omega
  have h1:=go (gls x i) fun w h=>h
  !Nat.le_trans h1 (Nat.mul_le_mul_right _ ih)
##SW {x:List (List Int)} (hn:x.length<=9):gl x<=362880:=by
 have h1:=LV (x:=x) x.length
 have h2:∀ n:Nat,n<=9->aB4 n n<=362880:=by
  intro n hn
  have:n=0\/n=1\/n=2\/n=3\/n=4\/n=5\/n=6\/n=7\/n=8\/n=9:=by omega
  rcases this with z | z | z | z | z | z | z | z | z | z<;>subst z<;>decide
 !Nat.le_trans h1 (h2 _ hn)
def fB (dr:List Int) (y:List (List Int)):Int:=at0 dr ((y.map fun r=>(r.length:Int)).sum % (dr.length:Int))
def cC (dr:List Int) (y:List (List Int)):Int×Int :=
 let p:=((loose y)[(fB dr y % ((loose y).length:Int)).toNat]?).getD (0,0)
 if fB dr y / 7 % 2=1 then (p.2,p.1) else p
##aAX {dr:List Int} {y:List (List Int)} (h:loose y≠[]):(0<=(cC dr y).1/\(cC dr y).1<(y.length:Int))/\(0<=(cC dr y).2/\(cC dr y).2<(y.length:Int))/\fM y (cC dr y).1 (cC dr y).2=true:=by
 have hl:0<(loose y).length:=List.length_pos_iff.2 h
 have h0:=Int.emod_nonneg (fB dr y) (show ((loose y).length:Int)≠0 by omega)
 have h1:=Int.emod_lt_of_pos (fB dr y) (show (0:Int)<((loose y).length:Int) by omega)
 have hm:((loose y)[(fB dr y % ((loose y).length:Int)).toNat]?).getD (0,0)∈loose y:=by
  rw [List.getElem?_eq_getElem °]
  !List.getElem_mem _
 &⟨i1,i2,i3⟩:=SN hm
 ~cC
 dsimp only
 split
 ·!⟨i2,i1,(pE i3).1⟩
 ·!⟨i1,i2,i3⟩
##vU {ds:List D} {d:D}:aY (.lst (ds++[d])) (.int (-1))=some d:=by
 show zG (ds++[d]) (-1)=_
 ~zG XA
 rw [if_neg §,if_pos (by rw [List.length_append,List.length_cons,List.length_nil]; omega)]
 show (ds++[d])[(-1+((ds++[d]).length:Int)).toNat]? = _
 rw [show (-1+((ds++[d]).length:Int)).toNat=ds.length by rw [List.length_append,List.length_cons,List.length_nil]; omega,List.getElem?_append_right (Nat.le_refl _),Nat.sub_self]
 rfl
##aEB {i:Nat} {f:EF} {ρ:aP} (d:D) {ρ':aP} (h:f (bT ρ)=some d) (hi:d.vN=true) (hr:ρ.set i (.ro d)=ρ'):uL i (fZ f) ρ=.nx ρ':=by
 ~uL fZ
 rw [h,Option.bind_some,if_pos hi]
 show Out.nx (ρ.set i (.ro d))=_
 rw [hr]
##aAY {i:Nat} {f:EF} {ρ:aP} (ds:List D) {ρ':aP} (h:f (bT ρ)=some (.lst ds)) (hi:kW ds=true) (hr:ρ.set i (.ro (.lst ds))=ρ'):lZ i f ρ=.nx ρ':=by
 ~lZ
 rw [h]
 show (if kW ds=true then _ else _)=_
 rw [if_pos hi,hr]
##aI3 {i:Nat} {f:EF} {ρ:aP} {ds:List D} {d:D} (h1:f (bT ρ)=some d) (hi:d.vN=true) (h2:ρ[i]? = some (.ow (.lst ds))) (hl:ds.length<16777216):sX (kU i eX (fZ f)) ρ=.nx (ρ.set i (.ow (.lst (ds++[d])))):=by
 ~sX kU fZ
 rw [h2]
 simp only [nQ,Option.bind_some]
 rw [h1]
 simp only [Option.bind_some,hi,if_true]
 rw [h2]
 simp only [nQ,Option.bind_some]
 rw [pB hl]
 rfl
##aI4 {i:Nat} {ρ:aP} {ds:List D} {d:D} (h2:ρ[i]? = some (.ow (.lst (ds++[d])))):sX (AN i) ρ=.nx (ρ.set i (.ow (.lst ds))):=by
 ~sX AN
 rw [h2]
 simp only [nQ,Option.bind_some]
 rw [show (ds++[d]).length - 1=ds.length by rw [List.length_append,List.length_cons,List.length_nil]; omega,List.getElem?_append_right (Nat.le_refl _),Nat.sub_self]
 show Out.nx (ρ.set i (.ow (.lst (ds++[d]).dropLast)))=_
 rw [List.dropLast_concat]
##aAZ {i:Nat} {f k:EF} {ρ:aP} {q:Nat->Obj->Prop} {R:List PR} {y:List (List Int)} (w:List Int) (h:dH R y=false) (h1:f (bT ρ)=some (.int R.length)) (h2:ρ[i]? = some (.ow (.dF q (mV R).1 (mV R).2))) (h3:k (bT ρ)=some (aJ y)) (h6:R.length<16000000):mC i (fZ f) k ρ=.nx (ρ.set i (.ow (.dF (adr q) (mV (R++[(y,w)])).1 (mV (R++[(y,w)])).2))):=by
 ~mC fZ
 rw [h1]
 simp only [Option.bind_some,D.vN,if_true]
 rw [h2]
 simp only [EW,Option.bind_some]
 rw [h3]
 simp only [Option.bind_some]
 rw [SQ]
 simp only [Option.bind_some]
 rw [if_pos ⟨IR R y,by ~mV uK; rw [List.length_map,aQ]; omega⟩,aEA w h]
##aEC {R:List PR} {q:Nat->Obj->Prop} {y:List (List Int)} (neg:Bool):zM neg (aJ y) (.dF q (mV R).1 (mV R).2)=some (.bl (if neg then !dH R y else dH R y)):=by
 show ((nW (aJ y)).bind fun k=>if kindB (mV R).1 k=true then some (D.bl (if neg then !(cP (mV R).1 (mV R).2 k).isSome else (cP (mV R).1 (mV R).2 k).isSome)) else none)=_
 rw [SQ]
 simp only [Option.bind_some]
 rw [if_pos (IR R y),SU,Option.isSome_map,n8]
##aED {R:List PR} {q:Nat->Obj->Prop} {y:List (List Int)} {i:Nat} (h:IQ R y=some i):pS (.dF q (mV R).1 (mV R).2) (aJ y)=some (.int (i:Int)):=by
 show ((nW (aJ y)).bind fun k=>if kindB (mV R).1 k=true then cP (mV R).1 (mV R).2 k else none)=_
 rw [SQ]
 simp only [Option.bind_some]
 rw [if_pos (IR R y),SU,h]
 rfl
##aI5 {i j:Nat} {t:AF} {ρ:aP} {x y:D} (h:t (kD ρ)=some [x,y]):ND i j t ρ=.nx ((ρ.set i (.ro x)).set j (.ro y)):=by
 ~ND
 rw [h]
abbrev n9:L4.SF:=(aH (uL 5 (fZ (aC aY (aB 4) (mW (eC (.int 1))))))
   (aH (aN 6 (aG LL.iX (aA (aB 5) aE)))
   (eV (tV (aC (zM false) (aB 5) (aB 3)))
    (sX (AN 4))
    (eV (tV (aC kT (bF aV (aA (aB 6) aE)) (eC (.int 0))))
     (aH (mC 3 (fZ (bF aV (aA (aB 2) aE))) (aB 5))
     (sX (kU 2 eX (aZ (dG (aA (aB 5) (aA (dG aE) aE)))))))
     (aH (aN 7 (aC aY (aB 1) (aC dI (bF u7 (aA (bJ 1 [] (dD (aB 5)) (g1 0) cH (bF aV (aA (aB 0) aE))) aE)) (bF aV (aA (aB 1) aE)))))
     (aH (HV (aZ (aC aY (aB 6) (aC dI (aB 7) (bF aV (aA (aB 6) aE))))) (HK 8 9))
     (aH (eV (tV (aC kT (aC dI (aC mX (aB 7) (eC (.int 7))) (eC (.int 2))) (eC (.int 1))))
      (ND 8 9 (aA (aB 9) (aA (aB 8) aE)))
      bY)
     (aH (aN 10 (dL (aA (aG LL.jZ (aA (aB 5) (aA (aB 8) (aA (aB 9) aE)))) (aA (aG LL.jZ (aA (aB 5) (aA (aB 9) (aA (aB 8) aE)))) aE))))
     (aH (lZ 11 (bJ 1 [3] (dD (aB 10)) (g1 0) (tV (aC (zM true) (aB 0) (aB 1))) (aB 0)))
     (eV (tV (aC tL (bF aV (aA (aB 11) aE)) (eC (.int 0))))
      (sX (kU 4 eX (aZ (aC aY (aB 11) (aC dI (aC mX (aB 7) (eC (.int 16))) (bF aV (aA (aB 11) aE)))))))
      (aH (mC 3 (fZ (bF aV (aA (aB 2) aE))) (aB 5))
      (sX (kU 2 eX (fZ (dG (aA (aB 5) (aA (dG (aA (aB 8) (aA (aB 9) (aA (aC pS (aB 3) (aC aY (aB 10) (eC (.int 0)))) (aA (aC pS (aB 3) (aC aY (aB 10) (eC (.int 1)))) aE))))) aE)))))))))))))))))
abbrev SP (x0:D) (dr:List Int) (q:Nat->Obj->Prop) (R:List PR) (W:List (List (List Int))) (v5 v6 v7 v8 v9 v10 v11:Sv):aP:=[.ro x0,.ro (aK dr),.ow (.lst (R.map aO)),.ow (.dF q (mV R).1 (mV R).2),.ow (.lst (W.map aJ)),v5,v6,v7,v8,v9,v10,v11]
def tZ (x0:D) (dr:List Int) (R:List PR) (W:List (List (List Int))) (ρ:aP):Prop:=∃ q v5 v6 v7 v8 v9 v10 v11,ρ=SP x0 dr q R W v5 v6 v7 v8 v9 v10 v11
inductive nA (dr:List Int) (R:List PR) (W:List (List (List Int))) (y:List (List Int)):List PR->List (List (List Int))->Prop
 | pop:dH R y=true->nA dr R W y R W
 | bare:dH R y=false->loose y=[]->nA dr R W y (R++[(y,[])]) (W++[y])
 | push (p:List (List Int)):dH R y=false->loose y≠[]->(p=put y (cC dr y).1 (cC dr y).2\/p=put y (cC dr y).2 (cC dr y).1)->dH R p=false->nA dr R W y R (W++[y]++[p])
 | done (i j:Nat):dH R y=false->loose y≠[]->IQ R (put y (cC dr y).1 (cC dr y).2)=some i->IQ R (put y (cC dr y).2 (cC dr y).1)=some j->nA dr R W y (R++[(y,[(cC dr y).1,(cC dr y).2,(i:Int),(j:Int)])]) (W++[y])
##IS {x0:D} {dr:List Int} {R:List PR} {W:List (List (List Int))} {y:List (List Int)} {ρ:aP} (hy:Ord.Rows y) (hn:y.length<=9) (hd:dr.length=45) (hR:R.length<15000000) (hW:W.length<15000000) (h:tZ x0 dr R (W++[y]) ρ) :
  Nx (n9 ρ) fun ρ'=>∃ R' W',nA dr R W y R' W'/\tZ x0 dr R' W' ρ':=by
 &⟨q,v5,v6,v7,v8,v9,v10,v11,rfl⟩:=h
 have hll:(loose y).length<=81:=by
  have:=tY y y.length (Nat.le_refl _)
  have e:(bG 0 y.length).flatMap (cZ y)=loose y:=rfl
  rw [e] at this
  !Nat.le_trans this (Nat.le_trans (Nat.mul_le_mul hn hn) §)
 @fN (SP x0 dr q R (W++[y]) (.ro (aJ y)) v6 v7 v8 v9 v10 v11) (aEB (aJ y) (aM (x:=.lst ((W++[y]).map aJ)) (y:=.int (-1)) rfl rfl (by rw [List.map_append]; !vU)) (xE y) rfl) ?_
 @fN (SP x0 dr q R (W++[y]) (.ro (aJ y)) (.ro (.lst ((loose y).map pairD))) v7 v8 v9 v10 v11) (iE _ (mY rfl (IP hn)) rfl) ?_
 @jG (dH R y) (mZ (d:=.bl (dH R y)) (aM (x:=aJ y) (y:=.dF q (mV R).1 (mV R).2) rfl rfl (aEC false)) rfl) (fun hh=>?_) fun hh=>?_
 ·@⟨_,aI4 (ds:=W.map aJ) (d:=aJ y) (by show some (Sv.ow (.lst ((W++[y]).map aJ)))=_; rw [List.map_append]; rfl),R,W,.pop hh,q,_,_,_,_,_,_,_,rfl⟩
 @jG (decide (((loose y).length:Int)=0)) (mZ (aM (x:=.int (loose y).length) (y:=.int 0) (dJ (x:=.lst ((loose y).map pairD)) rfl (by show some (D.int ((loose y).map pairD).length)=_; rw [List.length_map])) rfl fV) rfl) (fun hc=>?_) fun hc=>?_
 ·have hc:=of_decide_eq_true hc
  have hl:loose y=[]:=List.length_eq_zero_iff.1 °
  @fN (SP x0 dr q R (W++[y]) (.ro (aJ y)) (.ro (.lst ((loose y).map pairD))) v7 v8 v9 v10 v11 |>.set 3 (.ow (.dF (adr q) (mV (R++[(y,[])])).1 (mV (R++[(y,[])])).2))) (aAZ [] hh (dJ (x:=.lst (R.map aO)) rfl (by show some (D.int (R.map aO).length)=_; rw [List.length_map])) rfl rfl °) ?_
  @⟨_,NS (d:=aO (y,[])) (ds:=R.map aO) ?_ rfl (by rw [List.length_map]; omega),R++[(y,[])],W++[y],.bare hh hl,adr q,.ro (aJ y),.ro (.lst ((loose y).map pairD)),v7,v8,v9,v10,v11,?_⟩
  ·!NN rfl rfl
  ·rw [SP,SP,List.map_append (f:=aO)]
   rfl
 ·have hc:=of_decide_eq_false hc
  have hl:loose y≠[]:=fun e=>hc (by rw [e]; rfl)
  &⟨ab1,ab2,ab3⟩:=aAX (dr:=dr) hl
  &⟨s1,s2,s3,s4⟩:=pE ab3
  generalize hA:(cC dr y).1=a at ab1 ab3 s1 s2 s3 s4
  generalize hB:(cC dr y).2=b at ab2 ab3 s1 s2 s3 s4
  have aEE:0<=(y.map fun r:List Int=>(r.length:Int)).sum % (45:Int):=Int.emod_nonneg _ §
  have aEF:(y.map fun r:List Int=>(r.length:Int)).sum % (45:Int)<45:=Int.emod_lt_of_pos _ §
  have hlen:aV [aK dr]=some (.int 45):=by
   show some (D.int ((dr.map D.int).length:Nat))=_
   rw [List.length_map,hd]
   rfl
  have hlp:aV [.lst ((loose y).map pairD)]=some (.int (loose y).length):=by
   show some (D.int (((loose y).map pairD).length:Nat))=_
   rw [List.length_map]
  @fN (SP x0 dr q R (W++[y]) (.ro (aJ y)) (.ro (.lst ((loose y).map pairD))) (.ro (.int (fB dr y))) v8 v9 v10 v11) (iE (.int (fB dr y)) (aM (x:=aK dr) (y:=.int ((y.map fun r:List Int=>(r.length:Int)).sum % 45)) rfl (aM (x:=.int (y.map fun r:List Int=>(r.length:Int)).sum) (y:=.int 45) (dJ (x:=aK (y.map fun r:List Int=>(r.length:Int))) ?_ sum_ints) (dJ rfl hlen) (bZ §)) ?_) rfl) ?_
  ·have e5:aK (y.map fun r:List Int=>(r.length:Int))=.lst (y.map fun r=>D.int (r.length:Int)):=by ~aK; rw [List.map_map]; rfl
   rw [e5]
   !mE (y.map tupI) rfl (by rw [List.length_map]; omega) (iR tupI (fun r=>D.int (r.length:Int)) y fun r _=>⟨_,rfl,dJ rfl E4⟩)
  ·~fB
   rw [hd]
   !w4 aEE (by rw [hd]; !aEF)
  have hl0:0<(loose y).length:=List.length_pos_iff.2 hl
  have h0:=Int.emod_nonneg (fB dr y) (show ((loose y).length:Int)≠0 by omega)
  have h1:=Int.emod_lt_of_pos (fB dr y) (show (0:Int)<((loose y).length:Int) by omega)
  obtain ⟨p,hp⟩:∃ p,(loose y)[(fB dr y % ((loose y).length:Int)).toNat]? = some p:=⟨_,List.getElem?_eq_getElem °⟩
  @fN (SP x0 dr q R (W++[y]) (.ro (aJ y)) (.ro (.lst ((loose y).map pairD))) (.ro (.int (fB dr y))) (.ro (.int p.1)) (.ro (.int p.2)) v10 v11) (aDz (p:=.int p.1) (q:=.int p.2) (aM (x:=.lst ((loose y).map pairD)) (y:=.int (fB dr y % ((loose y).length:Int))) rfl (aM (x:=.int (fB dr y)) (y:=.int (loose y).length) rfl (dJ rfl hlp) (bZ °)) ?_)) ?_
  ·show zG ((loose y).map pairD) (fB dr y % ((loose y).length:Int))=_
   have:=vP (xs:=(loose y).map pairD) (k:=(fB dr y % ((loose y).length:Int)).toNat) (x:=pairD p) (by rw [List.getElem?_map,hp]; rfl)
   rw [show (((fB dr y % ((loose y).length:Int)).toNat:Nat):Int)=fB dr y % ((loose y).length:Int) by omega] at this
   rw [this]
   rfl
  have hab:cC dr y=if fB dr y / 7 % 2=1 then (p.2,p.1) else p:=by
   ~cC
   rw [hp]
   rfl
  @tN (fun ρ=>ρ=SP x0 dr q R (W++[y]) (.ro (aJ y)) (.ro (.lst ((loose y).map pairD))) (.ro (.int (fB dr y))) (.ro (.int a)) (.ro (.int b)) v10 v11) ?_ fun ρ e=>?_
  ·@jG (decide (fB dr y / 7 % 2=1)) (mZ (aM (x:=.int (fB dr y / 7 % 2)) (y:=.int 1) (aM (x:=.int (fB dr y / 7)) (y:=.int 2) (aM (x:=.int (fB dr y)) (y:=.int 7) rfl rfl (mD § §)) rfl (bZ §)) rfl fV) rfl) (fun hc=>?_) fun hc=>?_
   ·rw [if_pos (of_decide_eq_true hc)] at hab
    @⟨_,aI5 (args2 rfl rfl),?_⟩
    rw [<- hA,<- hB,hab]
    rfl
   ·rw [if_neg (of_decide_eq_false hc)] at hab
    @iS ?_
    rw [<- hA,<- hB,hab]
  subst e
  have u1:=FJ hy hn ab1 ab2
  have u2:=FJ hy hn ab2 ab1
  @fN (SP x0 dr q R (W++[y]) (.ro (aJ y)) (.ro (.lst ((loose y).map pairD))) (.ro (.int (fB dr y))) (.ro (.int a)) (.ro (.int b)) (.ro (.lst ([put y a b,put y b a].map aJ))) v11) (iE _ ?_ rfl) ?_
  ·~dL
   rw [args2 (fL rfl rfl rfl u1) (fL rfl rfl rfl u2)]
   rfl
  generalize hM:([put y a b,put y b a].filter fun z=>!dH R z)=M
  have hMl:M.length<=2:=by rw [<- hM]; !List.length_filter_le _ _
  @fN (SP x0 dr q R (W++[y]) (.ro (aJ y)) (.ro (.lst ((loose y).map pairD))) (.ro (.int (fB dr y))) (.ro (.int a)) (.ro (.int b)) (.ro (.lst ([put y a b,put y b a].map aJ))) (.ro (.lst (M.map aJ)))) (aAY (M.map aJ) ?_ (SS M) rfl) ?_
  ·rw [<- hM]
   @mE ([put y a b,put y b a].map aJ) rfl (by simp) (jF aJ (fun z=>!dH R z) aJ _ fun z _=>⟨_,rfl,mZ (d:=.bl (!dH R z)) (aM (x:=aJ z) (y:=.dF q (mV R).1 (mV R).2) rfl rfl (aEC true)) rfl,fun _=>rfl⟩)
  have hlm:aV [.lst (M.map aJ)]=some (.int M.length):=by
   show some (D.int ((M.map aJ).length:Nat))=_
   rw [List.length_map]
  @jG (decide ((0:Int)<M.length)) (mZ (aM (x:=.int M.length) (y:=.int 0) (dJ rfl hlm) rfl jX) rfl) (fun hc=>?_) fun hc=>?_
  ·have hc:=of_decide_eq_true hc
   have g0:=Int.emod_nonneg (fB dr y / 16) (show (M.length:Int)≠0 by omega)
   have g1:=Int.emod_lt_of_pos (fB dr y / 16) hc
   obtain ⟨z,hz⟩:∃ z,M[(fB dr y / 16 % (M.length:Int)).toNat]? = some z:=⟨_,List.getElem?_eq_getElem °⟩
   have hzm:z∈M:=List.mem_of_getElem? hz
   rw [<- hM,List.mem_filter] at hzm
   @⟨_,NS (d:=aJ z) (ds:=(W++[y]).map aJ) (aM (x:=.lst (M.map aJ)) (y:=.int (fB dr y / 16 % (M.length:Int))) rfl (aM (x:=.int (fB dr y / 16)) (y:=.int M.length) (aM (x:=.int (fB dr y)) (y:=.int 16) rfl rfl (mD § §)) (dJ rfl hlm) (bZ hc)) ?_) rfl (by rw [List.length_map,List.length_append,List.length_cons,List.length_nil]; omega),R,W++[y]++[z],.push z hh hl ?_ (¥hzm.2),q,.ro (aJ y),.ro (.lst ((loose y).map pairD)),.ro (.int (fB dr y)),.ro (.int a),.ro (.int b),.ro (.lst ([put y a b,put y b a].map aJ)),.ro (.lst (M.map aJ)),?_⟩
   ·show zG (M.map aJ) (fB dr y / 16 % (M.length:Int))=_
    have:=vP (xs:=M.map aJ) (k:=(fB dr y / 16 % (M.length:Int)).toNat) (x:=aJ z) (by rw [List.getElem?_map,hz]; rfl)
    rw [show (((fB dr y / 16 % (M.length:Int)).toNat:Nat):Int)=fB dr y / 16 % (M.length:Int) by omega] at this
    !this
   ·rw [hA,hB]
    have:=hzm.1
    simpa using this
   ·rw [SP,SP,List.map_append (l₁:=W++[y])]
    rfl
  ·have hc:=of_decide_eq_false hc
   have hMe:M=[]:=List.length_eq_zero_iff.1 °
   rw [hMe,List.filter_eq_nil_iff] at hM
   have k1:dH R (put y a b)=true:=¥hM (put y a b) (by simp)
   have k2:dH R (put y b a)=true:=¥hM (put y b a) (by simp)
   obtain ⟨i,hi⟩:∃ i,IQ R (put y a b)=some i:=Option.isSome_iff_exists.1 (by rw [n8]; !k1)
   obtain ⟨j,hj⟩:∃ j,IQ R (put y b a)=some j:=Option.isSome_iff_exists.1 (by rw [n8]; !k2)
   @fN ((SP x0 dr q R (W++[y]) (.ro (aJ y)) (.ro (.lst ((loose y).map pairD))) (.ro (.int (fB dr y))) (.ro (.int a)) (.ro (.int b)) (.ro (.lst ([put y a b,put y b a].map aJ))) (.ro (.lst (M.map aJ)))).set 3 (.ow (.dF (adr q) (mV (R++[(y,[a,b,(i:Int),(j:Int)])])).1 (mV (R++[(y,[a,b,(i:Int),(j:Int)])])).2))) (aAZ [a,b,(i:Int),(j:Int)] hh (dJ (x:=.lst (R.map aO)) rfl (by show some (D.int (R.map aO).length)=_; rw [List.length_map])) rfl rfl °) ?_
   @⟨_,aI3 (d:=aO (y,[a,b,(i:Int),(j:Int)])) (ds:=R.map aO) ?_ (FK _) rfl (by rw [List.length_map]; omega),R++[(y,[a,b,(i:Int),(j:Int)])],W++[y],?_,adr q,.ro (aJ y),.ro (.lst ((loose y).map pairD)),.ro (.int (fB dr y)),.ro (.int a),.ro (.int b),.ro (.lst ([put y a b,put y b a].map aJ)),.ro (.lst (M.map aJ)),?_⟩
   ·@NN (x:=aJ y) (y:=tupI [a,b,(i:Int),(j:Int)]) rfl ?_
    have f1:∀ ρ:bR,ρ[3]? = some (some (.dF (adr q) (mV (R++[(y,[a,b,(i:Int),(j:Int)])])).1 (mV (R++[(y,[a,b,(i:Int),(j:Int)])])).2))->ρ[10]? = some (some (.lst ([put y a b,put y b a].map aJ)))->ρ[8]? = some (some (.int a))->ρ[9]? = some (some (.int b))->dG (aA (aB 8) (aA (aB 9) (aA (aC pS (aB 3) (aC aY (aB 10) (eC (.int 0)))) (aA (aC pS (aB 3) (aC aY (aB 10) (eC (.int 1)))) aE)))) ρ=some (tupI [a,b,(i:Int),(j:Int)]):=fun ρ h3 h10 h8 h9=>by
     have e3:aB 3 ρ=some (.dF (adr q) (mV (R++[(y,[a,b,(i:Int),(j:Int)])])).1 (mV (R++[(y,[a,b,(i:Int),(j:Int)])])).2):=by ~aB; rw [h3]; rfl
     have e10:aB 10 ρ=some (.lst ([put y a b,put y b a].map aJ)):=by ~aB; rw [h10]; rfl
     have e8:aB 8 ρ=some (.int a):=by ~aB; rw [h8]; rfl
     have e9:aB 9 ρ=some (.int b):=by ~aB; rw [h9]; rfl
     have g1:aC pS (aB 3) (aC aY (aB 10) (eC (.int 0))) ρ=some (.int i):=aM e3 (y:=aJ (put y a b)) (aM e10 (y:=.int 0) rfl rfl) (aED (LU hi))
     have g2:aC pS (aB 3) (aC aY (aB 10) (eC (.int 1))) ρ=some (.int j):=aM e3 (y:=aJ (put y b a)) (aM e10 (y:=.int 1) rfl rfl) (aED (LU hj))
     ~dG aA aE
     rw [e8,e9,g1,g2]
     rfl
    !f1 _ rfl rfl rfl rfl
   ·have:=nA.done (dr:=dr) (W:=W) i j hh hl (by rw [hA,hB]; !hi) (by rw [hA,hB]; !hj)
    rw [hA,hB] at this
    !this
   ·rw [SP,SP,List.map_append (f:=aO)]
    rfl
abbrev oB:TF:=tV (aC tL (bF aV (aA (aB 4) aE)) (eC (.int 0)))
def Steps (m:Nat) (ρ ρ':aP):Prop:=∀ f:Nat,eZ oB n9 (f+m) ρ=eZ oB n9 f ρ'
##Steps.trans {m k:Nat} {a b c:aP} (h1:Steps m a b) (h2:Steps k b c):Steps (m+k) a c:=fun f=>by
 rw [show f+(m+k)=(f+k)+m by omega,h1,h2]
##LW {x0:D} {dr:List Int} {R:List PR} {W:List (List (List Int))} {ρ:aP} (h:tZ x0 dr R W ρ):oB (bT ρ)=some (decide (0<W.length)):=by
 &⟨q,v5,v6,v7,v8,v9,v10,v11,rfl⟩:=h
 @mZ (d:=.bl (decide ((0:Int)<W.length))) (aM (x:=.int W.length) (y:=.int 0) (dJ (x:=.lst (W.map aJ)) rfl (by show some (D.int (W.map aJ).length)=_; rw [List.length_map])) rfl jX) ?_
 show some (decide ((0:Int)<W.length))=_
 congr 1
 rw [decide_eq_decide]
 omega
##rZ {x0:D} {dr:List Int} {R:List PR} {W:List (List (List Int))} {y:List (List Int)} {ρ:aP} (hy:Ord.Rows y) (hn:y.length<=9) (hd:dr.length=45) (hR:R.length<15000000) (hW:W.length<15000000) (h:tZ x0 dr R (W++[y]) ρ) :
  ∃ R' W' ρ',nA dr R W y R' W'/\tZ x0 dr R' W' ρ'/\Steps 1 ρ ρ':=by
 &⟨ρ',e,R',W',t,s⟩:=IS hy hn hd hR hW h
 @⟨R',W',ρ',t,s,fun f=>?_⟩
 show (match oB (bT ρ) with
  | none=>Out.no
  | some false=>.nx ρ
  | some true=>match n9 ρ with
   | .nx ρ'=>eZ oB n9 f ρ'
   | o=>o)=_
 rw [LW h,decide_eq_true (by rw [List.length_append,List.length_cons]; omega)]
 dsimp only
 rw [e]
structure Ran (n:Nat) (dr:List Int) (R:List PR) (y:List (List Int)) (m:Nat) (R':List PR):Prop where
 steps:m+4<=6*gl y
 more:∃ S,R' = R++S /\ ∀ r∈S,gl r.1<=gl y
 few:R'.length+1<=R.length+2*gl y
 good:GoodR n R'
 has:dH R' y=true
 last:dH R y=false -> ∃ S w,R' = S++[(y,w)]
##YD {R S:List PR} {y:List (List Int)} (h:dH R y=true):dH (R++S) y=true:=by
 &⟨r,hr,e⟩:=gD.1 h
 !gD.2 ⟨r,List.mem_append_left _ hr,e⟩
##YE {R S:List PR} {y:List (List Int)} (h:dH R y=false) (hs:∀ r∈S,r.1≠y):dH (R++S) y=false:=by
 cases e:dH (R++S) y with
 | false=>rfl
 | true =>
  &⟨r,hr,e2⟩:=gD.1 e
  rcases List.mem_append.1 hr with z | z
  ·rw [gD.2 ⟨r,z,e2⟩] at h; cases h
  ·!absurd e2 (hs r z)
##BC {x0:D} {dr:List Int} {n:Nat} (hn:n<=9) (hd:dr.length=45):∀ (k:Nat) (y:List (List Int)) (R:List PR) (W:List (List (List Int))) (ρ:aP),gl y<=k->Ord.Rows y->y.length=n->GoodR n R->R.length+2*gl y<=14000000->W.length+gl y<=14000000->tZ x0 dr R (W++[y]) ρ ->
  ∃ m R' ρ',Ran n dr R y m R'/\tZ x0 dr R' W ρ'/\Steps m ρ ρ'
 | 0,y,R,W,ρ,hk,hy,_,_,_,_,_=>by have:=xF hy; omega
 | k+1,y,R,W,ρ,hk,hy,hl,hg,hR,hW,hst=>by
  have gp:=xF hy
  -- an order that has a row is taken off
  have offs:∀ (R1:List PR) (ρ1:aP),dH R1 y=true->R1.length<15000000->tZ x0 dr R1 (W++[y]) ρ1 -> ∃ ρ',tZ x0 dr R1 W ρ'/\Steps 1 ρ1 ρ':=fun R1 ρ1 hh hl1 h1=>by
   &⟨R',W',ρ',t,s,e⟩:=rZ hy ° hd hl1 ° h1
   cases t with
   | pop _=>!⟨ρ',s,e⟩
   | bare h _=>rw [hh] at h; cases h
   | push p h=>rw [hh] at h; cases h
   | done i j h=>rw [hh] at h; cases h
  cases hh:dH R y with
  | true =>
   &⟨ρ',s,e⟩:=offs R ρ hh ° hst
   !⟨1,R,ρ',⟨by omega,⟨[],by simp,fun r hr=>by cases hr⟩,by omega,hg,hh,fun h=>by rw [hh] at h; cases h⟩,s,e⟩
  | false =>
   by_cases hlo:loose y=[]
   ·&⟨R',W',ρ1,t,s,e⟩:=rZ hy ° hd ° ° hst
    cases t with
    | pop h=>rw [hh] at h; cases h
    | push p h h2=>!absurd hlo h2
    | done i j h h2=>!absurd hlo h2
    | bare h h2 =>
     have hhas:dH (R++[(y,[])]) y=true:=gD.2 ⟨(y,[]),by simp,rfl⟩
     &⟨ρ',s',e'⟩:=offs _ ρ1 hhas (by rw [List.length_append,List.length_cons,List.length_nil]; omega) s
     @⟨1+1,_,ρ',⟨by omega,⟨[(y,[])],rfl,fun r hr=>by rw [List.mem_singleton] at hr; rw [hr]; !Nat.le_refl _⟩,by rw [List.length_append,List.length_cons,List.length_nil]; omega,hg.snoc ⟨hy,hl,.inl ⟨hlo,rfl⟩⟩,hhas,fun _=>⟨R,[],rfl⟩⟩,s',e.trans e'⟩
   ·&⟨ab1,ab2,ab3⟩:=aAX (dr:=dr) hlo
    &⟨s1,s2,s3,s4⟩:=pE ab3
    have hsum:=aB3 s2 ab1 ab2
    have th1:thing y.length (cC dr y).1=true:=fI.2 ab1
    have th2:thing y.length (cC dr y).2=true:=fI.2 ab2
    have rP:=E8 hy th1 th2 s3
    have rQ:=E8 hy th2 th1 s4
    have gP:=xF rP
    have gQ:=xF rQ
    have lP:=dP y (cC dr y).1 (cC dr y).2
    have lQ:=dP y (cC dr y).2 (cC dr y).1
    -- both parts have rows
    have fin:∀ (R1:List PR) (ρ1:aP),dH R1 y=false->dH R1 (put y (cC dr y).1 (cC dr y).2)=true->dH R1 (put y (cC dr y).2 (cC dr y).1)=true->R1.length<14500000->GoodR n R1->tZ x0 dr R1 (W++[y]) ρ1 -> ∃ w ρ',GoodR n (R1++[(y,w)])/\tZ x0 dr (R1++[(y,w)]) W ρ'/\Steps 2 ρ1 ρ':=fun R1 ρ1 hh1 k1 k2 hl1 g1 h1=>by
     &⟨R',W',ρ2,t,s,e⟩:=rZ hy ° hd ° ° h1
     cases t with
     | pop h=>rw [hh1] at h; cases h
     | bare h h2=>!absurd h2 hlo
     | push p h h2 h3 h4 =>
      rcases h3 with z | z
      ·rw [z,k1] at h4; cases h4
      ·rw [z,k2] at h4; cases h4
     | done i j h h2 h3 h4 =>
      have hhas:dH (R1++[(y,[(cC dr y).1,(cC dr y).2,(i:Int),(j:Int)])]) y=true:=gD.2 ⟨_,List.mem_append_right _ (List.mem_singleton.2 rfl),rfl⟩
      &⟨ρ',s',e'⟩:=offs _ ρ2 hhas (by rw [List.length_append,List.length_cons,List.length_nil]; omega) s
      &⟨u,u1,u2⟩:=DD h3
      &⟨v,v1,v2⟩:=DD h4
      @⟨_,ρ',g1.snoc ⟨hy,hl,.inr ⟨_,_,i,j,u,v,hlo,rfl,by rw [<- hl]; !ab1,by rw [<- hl]; !ab2,ab3,SV h3,SV h4,u1,u2,v1,v2⟩⟩,s',e.trans e'⟩
    have all2:∀ {p q:List (List Int)},(p=put y (cC dr y).1 (cC dr y).2\/p=put y (cC dr y).2 (cC dr y).1)->(q=put y (cC dr y).1 (cC dr y).2\/q=put y (cC dr y).2 (cC dr y).1)->p≠q->gl p+gl q=gl y:=fun {p q} hp hq hpq=>by
     rcases hp with z | z<;>rcases hq with z2 | z2
     ·!absurd (z.trans z2.symm) hpq
     ·rw [z,z2]; omega
     ·rw [z,z2]; omega
     ·!absurd (z.trans z2.symm) hpq
    -- one part is run through
    have one:∀ (R1:List PR) (ρ1:aP),dH R1 y=false->¬ (dH R1 (put y (cC dr y).1 (cC dr y).2)=true/\dH R1 (put y (cC dr y).2 (cC dr y).1)=true)->R1.length<14500000->(∀ p,(p=put y (cC dr y).1 (cC dr y).2\/p=put y (cC dr y).2 (cC dr y).1)->dH R1 p=false->R1.length+2*gl p<=14000000)->GoodR n R1->tZ x0 dr R1 (W++[y]) ρ1 ->
      ∃ p m R2 ρ2,(p=put y (cC dr y).1 (cC dr y).2\/p=put y (cC dr y).2 (cC dr y).1)/\dH R1 p=false/\gl p+1<=gl y/\Ran n dr R1 p m R2/\dH R2 y=false/\tZ x0 dr R2 (W++[y]) ρ2/\Steps (1+m) ρ1 ρ2:=fun R1 ρ1 hh1 hm hl1 hb g1 h1=>by
     &⟨R',W',ρ2,t,s,e⟩:=rZ hy ° hd ° ° h1
     cases t with
     | pop h=>rw [hh1] at h; cases h
     | bare h h2=>!absurd h2 hlo
     | done i j h h2 h3 h4 =>
      !absurd ⟨by rw [<- n8,h3]; rfl,by rw [<- n8,h4]; rfl⟩ hm
     | push p h h2 h3 h4 =>
      have fct:Ord.Rows p/\p.length=n/\gl p+1<=gl y:=by
       rcases h3 with z | z
       ·rw [z]; !⟨rP,by omega,by omega⟩
       ·rw [z]; !⟨rQ,by omega,by omega⟩
      &⟨m,R2,ρ3,rn,s3,e3⟩:=BC hn hd k p R1 (W++[y]) ρ2 ° fct.1 fct.2.1 g1 (hb p h3 h4) (by rw [List.length_append,List.length_cons,List.length_nil]; omega) s
      @⟨p,m,R2,ρ3,h3,h4,fct.2.2,rn,?_,s3,e.trans e3⟩
      &⟨S,eS,hS⟩:=rn.more
      rw [eS]
      !YE hh1 fun r hr e=>by
       have:=hS r hr
       rw [e] at this
       omega
    have keep:∀ {R1 R2:List PR} {p z:List (List Int)} {m:Nat},Ran n dr R1 p m R2->dH R1 z=true->dH R2 z=true:=fun {R1 R2 p z m} rn h=>by
     &⟨S,eS,_⟩:=rn.more
     rw [eS]
     !YD h
    by_cases b0:dH R (put y (cC dr y).1 (cC dr y).2)=true/\dH R (put y (cC dr y).2 (cC dr y).1)=true
    ·&⟨w,ρ',g',s',e'⟩:=fin R ρ hh b0.1 b0.2 ° hg hst
     @⟨2,_,ρ',⟨by omega,⟨[(y,w)],rfl,fun r hr=>by rw [List.mem_singleton] at hr; rw [hr]; !Nat.le_refl _⟩,by rw [List.length_append,List.length_cons,List.length_nil]; omega,g',gD.2 ⟨_,List.mem_append_right _ (List.mem_singleton.2 rfl),rfl⟩,fun _=>⟨R,w,rfl⟩⟩,s',e'⟩
    ·&⟨p,m1,R1,ρ1,hp,hp0,hpg,rn1,hy1,st1,e1⟩:=one R ρ hh b0 ° (fun p hp _=>by
      rcases hp with z | z
      ·rw [z]; omega
      ·rw [z]; omega) hg hst
     &⟨S1,eS1,hS1⟩:=rn1.more
     have f1:=rn1.few
     have t1:=rn1.steps
     have pg:1<=gl p:=by
      rcases hp with z | z
      ·rw [z]; !gP
      ·rw [z]; !gQ
     by_cases b1:dH R1 (put y (cC dr y).1 (cC dr y).2)=true/\dH R1 (put y (cC dr y).2 (cC dr y).1)=true
     ·&⟨w,ρ',g',s',e'⟩:=fin R1 ρ1 hy1 b1.1 b1.2 ° rn1.good st1
      @⟨1+m1+2,_,ρ',⟨by omega,⟨S1++[(y,w)],by rw [eS1,List.append_assoc],fun r hr=>?_⟩,by rw [List.length_append,List.length_cons,List.length_nil]; omega,g',gD.2 ⟨_,List.mem_append_right _ (List.mem_singleton.2 rfl),rfl⟩,fun _=>⟨R1,w,rfl⟩⟩,s',e1.trans e'⟩
      rcases List.mem_append.1 hr with z | z
      ·have:=hS1 r z; omega
      ·rw [List.mem_singleton] at z; rw [z]; !Nat.le_refl _
     ·&⟨p2,m2,R2,ρ2,hp2,aEG,aQ3,rn2,hy2,st2,e2⟩:=one R1 ρ1 hy1 b1 ° (fun p' hp' h'=>by
       have ne:p≠p':=fun e=>by rw [<- e,rn1.has] at h'; cases h'
       have:=all2 hp hp' ne
       omega) rn1.good st1
      have ne:p≠p2:=fun e=>by rw [<- e,rn1.has] at aEG; cases aEG
      have tot:=all2 hp hp2 ne
      &⟨S2,eS2,hS2⟩:=rn2.more
      have f2:=rn2.few
      have t2:=rn2.steps
      have YF:dH R2 p=true:=keep rn2 rn1.has
      have both:dH R2 (put y (cC dr y).1 (cC dr y).2)=true/\dH R2 (put y (cC dr y).2 (cC dr y).1)=true:=by
       have h2:=rn2.has
       rcases hp with z | z<;>rcases hp2 with z2 | z2
       ·!absurd (z.trans z2.symm) ne
       ·rw [z] at YF; rw [z2] at h2; !⟨YF,h2⟩
       ·rw [z] at YF; rw [z2] at h2; !⟨h2,YF⟩
       ·!absurd (z.trans z2.symm) ne
      &⟨w,ρ',g',s',e'⟩:=fin R2 ρ2 hy2 both.1 both.2 ° rn2.good st2
      @⟨1+m1+(1+m2+2),_,ρ',⟨by omega,⟨S1++S2++[(y,w)],by rw [eS2,eS1,List.append_assoc,List.append_assoc,List.append_assoc],fun r hr=>?_⟩,by rw [List.length_append,List.length_cons,List.length_nil]; omega,g',gD.2 ⟨_,List.mem_append_right _ (List.mem_singleton.2 rfl),rfl⟩,fun _=>⟨R2,w,rfl⟩⟩,s',e1.trans (e2.trans e')⟩
      rcases List.mem_append.1 hr with z | z
      ·rcases List.mem_append.1 z with z | z
       ·have:=hS1 r z; omega
       ·have:=hS2 r z; omega
      ·rw [List.mem_singleton] at z; rw [z]; !Nat.le_refl _
##FL {x:List (List Int)} {dr:List Int} (hx:Ord.Rows x) (hn:x.length<=9) (hd:dr.length=45):∃ (R:List PR) (w:List Int),GoodR x.length (R++[(x,w)])/\(R++[(x,w)]).length<=2*gl x/\fX [aJ x,aK dr]=.ok (.lst ((R++[(x,w)]).map aO)):=by
 have g9:=SW hn
 have gp:=xF hx
 &⟨m,R',ρ',rn,st,e⟩:=BC (x0:=aJ x) hn hd (gl x) x [] [] (SP (aJ x) dr vA [] [x] .no .no .no .no .no .no .no) (Nat.le_refl _) hx rfl (fun i r h=>by simp at h) (by simp; omega) (by simp; omega) ⟨_,_,_,_,_,_,_,_,rfl⟩
 &⟨S,w,eR⟩:=rn.last rfl
 have ts:=rn.steps
 have fw:=rn.few
 @⟨S,w,by rw [<- eR]; !rn.good,by rw [<- eR]; simp only [List.length_nil] at fw; omega,?_⟩
 have run:eZ oB n9 3000000 (SP (aJ x) dr vA [] [x] .no .no .no .no .no .no .no)=.nx ρ':=by
  obtain ⟨f,hf⟩:∃ f,3000000=(f+1)+m:=⟨3000000 - 1 - m,by omega⟩
  rw [hf,e]
  show (match oB (bT ρ') with
   | none=>Out.no
   | some false=>.nx ρ'
   | some true=>match n9 ρ' with
    | .nx ρ'=>eZ oB n9 f ρ'
    | o=>o)=_
  rw [LW st]
  rfl
 ~fX
 @jP rfl (fF [.ro (aJ x),.ro (aK dr),.ow (.lst []),.no,.no,.no,.no,.no,.no,.no,.no,.no] rfl (fF [.ro (aJ x),.ro (aK dr),.ow (.lst []),.ow (.dF vA [] []),.no,.no,.no,.no,.no,.no,.no,.no] rfl (fF (SP (aJ x) dr vA [] [x] .no .no .no .no .no .no .no) rfl (fF ρ' run (kH ?_)))))
 &⟨q,v5,v6,v7,v8,v9,v10,v11,rfl⟩:=st
 rw [<- eR]
 rfl
##vV {α:Type} [DecidableEq α] {f:D->D->Option Bool} {mk:α->D} (h:∀ a b,f (mk a) (mk b)=some (decide (a=b))):∀ l m:List α,(u9 f (l.map mk) (m.map mk)).map (fun r=>r&&decide ((l.map mk).length=(m.map mk).length))=some (decide (l=m))
 | [],[]=>rfl
 | [],b::m=>by
  show some (true&&decide (0=(m.map mk).length+1))=_
  rw [decide_eq_false °,decide_eq_false (by simp)]
  rfl
 | a::l,[]=>by
  show some (true&&decide ((l.map mk).length+1=0))=_
  rw [decide_eq_false °,decide_eq_false (by simp)]
  rfl
 | a::l,b::m=>by
  have ih:=vV h l m
  rw [List.map_cons,List.map_cons,u9,h a b]
  cases e:u9 f (l.map mk) (m.map mk) with
  | none=>rw [e] at ih; cases ih
  | some r =>
   rw [e] at ih
   have ih2:(r&&decide ((l.map mk).length=(m.map mk).length))=decide (l=m):=Option.some.inj ih
   show some ((decide (a=b)&&r)&&decide ((l.map mk).length+1=(m.map mk).length+1))=_
   rw [Bool.and_assoc,show decide ((l.map mk).length+1=(m.map mk).length+1)=decide ((l.map mk).length=(m.map mk).length) from decide_eq_decide.2 °,ih2]
   congr 1
   rw [Bool.eq_iff_iff,Bool.and_eq_true,decide_eq_true_eq,decide_eq_true_eq,decide_eq_true_eq,List.cons.injEq]
##YG (n:Nat) (a b:List Int):eqP (n+1) (tupI a) (tupI b)=some (decide (a=b)):=vV (fun a b=>by cases n<;>rfl) a b
##DF (n:Nat) (x y:List (List Int)):eqP (n+2) (aJ x) (aJ y)=some (decide (x=y)):=vV (fun a b=>YG n a b) x y
##SX (x y:List (List Int)):qE (aJ x) (aJ y)=some (.bl (decide (x=y))):=by
 ~qE
 rw [DF 6]
 rfl
##SY (x y:List (List Int)):EV (aJ x) (aJ y)=some (.bl (!decide (x=y))):=by
 ~EV
 rw [DF 6]
 rfl
##SZ (x y:List (List Int)):qE (.tup [aJ x,aJ y]) (.tup [aJ x,aJ y])=some (.bl true):=by
 have:=vV (f:=eqP 7) (mk:=aJ) (fun a b=>DF 5 a b) [x,y] [x,y]
 ~qE
 have e:eqP 8 (.tup [aJ x,aJ y]) (.tup [aJ x,aJ y])=some (decide ([x,y]=[x,y])):=this
 rw [e,decide_eq_true rfl]
 rfl
##IT {a b:EF} {ρ:bR} {p q:Bool} (ha:a ρ=some (.bl p)) (hb:p=true->b ρ=some (.bl q)) (h:p=false->q=false):kE a b ρ=some (.bl q):=by
 ~kE
 rw [ha]
 show (if p=true then b ρ else some (.bl false))=_
 cases p with
 | true=>!hb rfl
 | false=>rw [h rfl]; rfl
section
variable {x:List (List Int)}
##NY (hx:Ord.Rows x) (hn:x.length<=9) {b:Int} (h0:0<=b) (h1:b<(x.length:Int)):eB [aJ x,tupI (row x b)]=.ok (.bl true):=by
 ~eB
 have sh:=xD hx hn
 have key:=AZ (g:=lE 2) (b:=(eV (hZ (tV (bF allM (aA (bJ 1 [1] (dD (aC aY (aB 0) (aB 2))) (g1 0) cH (aC (lY false) (aB 0) (aB 1))) aE))))
    (aU (eC (.bl false)))
    bY)) (z:=.bl false) (fun ρ=>∃ v,ρ=[Sv.ro (aJ x),Sv.ro (tupI (row x b)),v]) D.int (fun _=>true) (row x b) [Sv.ro (aJ x),Sv.ro (tupI (row x b)),Sv.no] ⟨_,rfl⟩ fun t ht ρ hp=>by
  &⟨v,rfl⟩:=hp
  have rt:=hx.rng _ _ (eO h0 h1) t ht
  @⟨[Sv.ro (aJ x),Sv.ro (tupI (row x b)),Sv.ro (.int t)],rfl,fun _=>?_,fun h=>by cases h⟩
  @jG false (XQ (b:=true) (mZ (d:=.bl true) (dJ (x:=.lst ((row x t).map fun c=>D.bl ((row x b).contains c))) (mE ((row x t).map D.int) ?_ ?_ (iR D.int (fun c=>D.bl ((row x b).contains c)) _ fun c hc=>⟨_,rfl,aM (x:=.int c) (y:=tupI (row x b)) rfl rfl IE⟩)) ?_) rfl) rfl) (fun h=>by cases h) fun _=>iS ⟨_,rfl⟩
  ·~dD
   rw [aM (g:=aY) (a:=aB 0) (b:=aB 2) (x:=aJ x) (y:=.int t) rfl rfl (kL rt.1 rt.2)]
   rfl
  ·have:=sh _ (List.mem_of_getElem? (eO rt.1 rt.2))
   rw [List.length_map]
   omega
  ·have e:((row x t).map fun c=>D.bl ((row x b).contains c))=((row x t).map fun c=>(row x b).contains c).map D.bl:=by rw [List.map_map]; rfl
   rw [e,CS]
   congr 2
   rw [List.all_map,List.all_eq_true]
   intro c hc
   have:=hx.tr b.toNat t.toNat _ _ (eO h0 h1) (by rw [show ((t.toNat:Nat):Int)=t by omega]; !ht) (eO rt.1 rt.2) c hc
   simpa using this
 have e2:(row x b).all (fun _=>true)=true:=by simp
 rw [e2] at key
 &⟨ρ,e,v,rfl⟩:=key.1 rfl
 !jP rfl (fF _ (RK ((row x b).map D.int) rfl e) (kH rfl))
##NZ (hx:Ord.Rows x) (hn:x.length<=9) {b:Int} (h0:0<=b) (h1:b<(x.length:Int)):mG [aJ x,.int b]=.ok (.bl true):=by
 ~mG
 have sh:=xD hx hn
 have up:=hx.up _ _ (eO h0 h1)
 have W4:=hx.W4 _ _ (eO h0 h1)
 rw [show ((b.toNat:Nat):Int)=b by omega] at W4
 have hl:=sh _ (List.mem_of_getElem? (eO h0 h1))
 @jP rfl (fF [.ro (aJ x),.ro (.int b),.ro (tupI (row x b))] (iE _ (aM (x:=aJ x) (y:=.int b) rfl rfl (kL h0 h1)) rfl) (kH ?_))
 @IT (p:=true) (eM (x:=tupI (row x b)) (y:=.int x.length) rfl (dJ rfl dZ) (CY ° up fun c hc=>hx.rng _ _ (eO h0 h1) c hc)) (fun _=>IT (p:=true) (aM (x:=.int b) (y:=tupI (row x b)) rfl rfl ?_) (fun _=>eM rfl rfl (NY hx hn h0 h1)) fun h=>by cases h) fun h=>by cases h
 rw [CW]
 simp [W4]
##FM (hx:Ord.Rows x) (hn:x.length<=9):iW [aJ x]=.ok (.bl true):=by
 ~iW
 have tm:eP [.int x.length]=.ok (.bl false):=by
  ~eP
  @jP rfl (kH (aM (x:=.int x.length) (y:=.int 9) rfl rfl ?_))
  rw [jX,decide_eq_false °]
 @jP rfl (fF _ (NJ (mZ (mY (x:=.int x.length) (dJ rfl dZ) tm) rfl) rfl) (kH ?_))
 @dJ (x:=.lst ((bG 0 x.length).map fun _=>D.bl true)) (mE ((bG 0 x.length).map D.int) (RO (dJ rfl dZ) °) (by rw [List.length_map,aQ]; omega) (iR D.int (fun _=>D.bl true) _ fun b hb=>?_)) ?_
 ·have hr:=cB.1 hb
  !⟨_,rfl,eM rfl rfl (NZ hx hn ° °)⟩
 ·have e:((bG 0 x.length).map fun _=>D.bl true)=((bG 0 x.length).map fun _=>true).map D.bl:=by rw [List.map_map]; rfl
  rw [e,CS]
  congr 2
  simp
end
##vW {R:List PR} {i:Nat} {r:PR} (h:R[i]? = some r):aY (.tup (R.map aO)) (.int (i:Int))=some (aO r):=by
 show zG (R.map aO) (i:Int)=_
 !vP (by rw [List.getElem?_map,h]; rfl)
##DG {n:Nat} {R:List PR} {i:Nat} {r:PR} (hn:n<=9) (hi:R[i]? = some r) (h:p5 n R i r):gX [.tup (R.map aO),.int i]=.ok (.bl true):=by
 &⟨hy,hl,why⟩:=h
 ~gX
 have e0:=vW hi
 have lp:=wW (rows:=r.1) °
 have first:∀ {b:L4.SF} {d:D},b [.ro (.tup (R.map aO)),.ro (.int i),.ro (aJ r.1),.ro (tupI r.2)]=.rt d->aH (aN 2 (aC aY (aC aY (aB 0) (aB 1)) (eC (.int 0)))) (aH (aN 3 (aC aY (aC aY (aB 0) (aB 1)) (eC (.int 1)))) b) (fA 4 [.tup (R.map aO),.int i])=.rt d:=fun {b d} hb =>
  fF [.ro (.tup (R.map aO)),.ro (.int i),.ro (aJ r.1),.no] (iE (aJ r.1) (aM (x:=aO r) (y:=.int 0) (aM (x:=.tup (R.map aO)) (y:=.int i) rfl rfl e0) rfl rfl) rfl) (fF [.ro (.tup (R.map aO)),.ro (.int i),.ro (aJ r.1),.ro (tupI r.2)] (iE (tupI r.2) (aM (x:=aO r) (y:=.int 1) (aM (x:=.tup (R.map aO)) (y:=.int i) rfl rfl e0) rfl rfl) rfl) hb)
 rcases why with ⟨l0,w0⟩ | ⟨a,b,p,q,u,v,l0,w0,ha,hb,hlo,hp,hq,up,W5,vq,W6⟩
 ·@jP rfl (first (aDl (ifT (XQ (b:=false) (mZ (mY rfl lp) ?_) rfl) (kH (aM (x:=tupI r.2) (y:=.tup []) rfl rfl ?_)))))
  ·rw [l0]; rfl
  ·rw [w0]; rfl
 ·&⟨s1,s2,s3,s4⟩:=pE hlo
  have th1:thing r.1.length a=true:=fI.2 ⟨ha.1,by omega⟩
  have th2:thing r.1.length b=true:=fI.2 ⟨hb.1,by omega⟩
  have ct:=aB2 hy ° th1 th2 hlo ⟨s3,s4⟩
  have e3:∀ {ρ:bR} {m:Nat} {z:Int},ρ[3]? = some (some (tupI r.2))->[a,b,(p:Int),(q:Int)][m]? = some z->aC aY (aB 3) (eC (.int (m:Int))) ρ=some (.int z):=fun {ρ m z} h3 hz=>aM (x:=tupI r.2) (y:=.int m) (by ~aB; rw [h3]; rfl) rfl (by rw [w0]; !lF hz)
  @jP rfl (first (fF _ (NJ (XQ (b:=true) (mZ (mY rfl lp) ?_) rfl) rfl) (fF _ (NJ (RP (b:=false) (mZ (aM (x:=.int 4) (y:=.int 4) (dJ (x:=tupI r.2) rfl ?_) rfl CQ) rfl) (fun _=>XQ (b:=true) (mZ (d:=.bl true) (fL (x:=aJ r.1) (y:=.int a) (z:=.int b) rfl (e3 (m:=0) rfl rfl) (e3 (m:=1) rfl rfl) ?_) rfl) rfl) fun h=>by cases h) rfl) (fF _ (NJ (XQ (b:=true) (AU (b:=true) ?_ (fun _=>?_) fun h=>by cases h) rfl) rfl) (kH ?_)))))
  ·show some (!((loose r.1).map pairD).isEmpty)=_
   cases hh:loose r.1 with
   | nil=>!absurd hh l0
   | cons _ _=>rfl
  ·rw [w0]; rfl
  ·~dR
   @jP rfl (kH (IT (p:=true) (eM (x:=.int a) (y:=.int r.1.length) rfl (dJ rfl dZ) (by rw [jH,decide_eq_true ha.1,decide_eq_true °]; rfl)) (fun _=>IT (p:=true) (eM (x:=.int b) (y:=.int r.1.length) rfl (dJ rfl dZ) (by rw [jH,decide_eq_true hb.1,decide_eq_true °]; rfl)) (fun _=>fL rfl rfl rfl (by rw [m9 ⟨ha.1,by omega⟩ ⟨hb.1,by omega⟩,hlo])) fun h=>by cases h) fun h=>by cases h))
  ·@mZ (d:=.bl true) ?_ rfl
   ~kF
   have q2:aC aY (aB 3) (eC (.int 2)) (bT [.ro (.tup (R.map aO)),.ro (.int i),.ro (aJ r.1),.ro (tupI r.2)])=some (.int (p:Int)):=e3 (m:=2) rfl rfl
   rw [q2]
   show (if decide ((0:Int)<=(p:Int))=true then some (D.bl (decide ((p:Int)<(i:Int)))) else some (.bl false))=_
   rw [if_pos (by rw [decide_eq_true_eq]; omega),decide_eq_true °]
  ·@mZ (d:=.bl true) ?_ rfl
   ~kF
   have q3:aC aY (aB 3) (eC (.int 3)) (bT [.ro (.tup (R.map aO)),.ro (.int i),.ro (aJ r.1),.ro (tupI r.2)])=some (.int (q:Int)):=e3 (m:=3) rfl rfl
   rw [q3]
   show (if decide ((0:Int)<=(q:Int))=true then some (D.bl (decide ((q:Int)<(i:Int)))) else some (.bl false))=_
   rw [if_pos (by rw [decide_eq_true_eq]; omega),decide_eq_true °]
  ·@aM (x:=.tup [aJ (put r.1 a b),aJ (put r.1 b a)]) (y:=.tup [aJ (put r.1 a b),aJ (put r.1 b a)]) (fL rfl (e3 (m:=0) rfl rfl) (e3 (m:=1) rfl rfl) ct) (NN (aM (x:=aO u) (y:=.int 0) (aM (x:=.tup (R.map aO)) (y:=.int p) rfl (e3 (m:=2) rfl rfl) (vW up)) rfl ?_) (aM (x:=aO v) (y:=.int 0) (aM (x:=.tup (R.map aO)) (y:=.int q) rfl (e3 (m:=3) rfl rfl) (vW vq)) rfl ?_)) (SZ _ _)
   ·show some (aJ u.1)=_
    rw [W5]
   ·show some (aJ v.1)=_
    rw [W6]
##S3 {ds:List D} {d:D}:aY (.tup (ds++[d])) (.int (-1))=some d:=vU (ds:=ds) (d:=d)
##S4 {n:Nat} {R:List PR} {x:List (List Int)} {w:List Int} (hn:n<=9) (hx:x.length=n) (g:GoodR n (R++[(x,w)])) (hl:R.length<15000000):fW [aJ x,.tup ((R++[(x,w)]).map aO)]=.ok (.bl true):=by
 ~fW
 generalize hA:R++[(x,w)]=A at g
 have hAl:A.length<=15000000:=by rw [<- hA,List.length_append,List.length_cons,List.length_nil]; omega
 @jP rfl (fF _ (NJ (RP (b:=false) (XQ (b:=true) (mZ (d:=.tup (A.map aO)) rfl ?_) rfl) (fun _=>mZ (aM (x:=aJ x) (y:=aJ x) (aM (x:=aO (x,w)) (y:=.int 0) (aM (x:=.tup (A.map aO)) (y:=.int (-1)) rfl rfl ?_) rfl rfl) rfl (SY x x)) ?_) fun h=>by cases h) rfl) (kH ?_))
 ·rw [<- hA,List.map_append]
  show some (!(_++[aO (x,w)]).isEmpty)=_
  simp
 ·rw [<- hA,List.map_append]
  !S3
 ·rw [decide_eq_true rfl]
  rfl
 ·@dJ (x:=.lst (A.zipIdx.map fun _=>D.bl true)) (mE (A.zipIdx.map fun p=>D.tup [.int (p.2:Int),aO p.1]) ?_ (by rw [List.length_map,List.length_zipIdx]; omega) (iR (fun p:PR×Nat=>D.tup [.int (p.2:Int),aO p.1]) (fun _=>D.bl true) _ fun p hp=>?_)) ?_
  ·~nV
   rw [args1 (x:=.tup (A.map aO)) rfl,Option.bind_some,AR,zipIdx_map,List.map_map]
   rfl
  ·have hp2:A[p.2]? = some p.1:=by
    have:=List.mem_zipIdx_iff_getElem?.1 hp
    !this
   have ok:=g p.2 p.1 hp2
   @⟨[some (.int (p.2:Int)),some (aO p.1),some (.tup (A.map aO)),some (aJ x)],rfl,IT (p:=true) (eM (x:=aJ p.1.1) (y:=.int x.length) (aM (x:=aO p.1) (y:=.int 0) rfl rfl rfl) (dJ rfl dZ) ?_) (fun _=>eM rfl rfl (DG hn hp2 ok)) fun h=>by cases h⟩
   ~gC
   @jP rfl (kH (IT (p:=true) (aM (x:=.int p.1.1.length) (y:=.int x.length) (dJ rfl dZ) rfl ?_) (fun _=>mY rfl (FM ok.rows (by rw [ok.len]; !hn))) fun h=>by cases h))
   rw [fV,decide_eq_true (by rw [ok.len,hx])]
  ·have e:(A.zipIdx.map fun _=>D.bl true)=(A.zipIdx.map fun _=>true).map D.bl:=by rw [List.map_map]; rfl
   rw [e,CS]
   congr 2
   simp
def oC (m:Nat) (r:PR):PR:=match r.2 with
 | [a,b,p,q]=>(r.1,[a,b,p+m,q+m])
 | _=>(r.1,r.2)
##xG (m:Nat) (r:PR):(oC m r).1=r.1:=by
 ~oC
 split<;>rfl
##FN:∀ R:List PR,kW (R.map aO)=true
 | []=>rfl
 | r::R=>by
  rw [List.map_cons,kW,FN R,FK]
  rfl
##S5 {n m:Nat} {R:List PR} (g:GoodR n R) (hR:R.length<15000000):iZ [.lst (R.map aO),.int m]=.ok (.lst ((R.map (oC m)).map aO)):=by
 ~iZ
 have main:Rt ((aH (iA 2 (dL aE))
  (aH (dE (dD (aB 0)) (HK 3 4)
   (aH (eV (tV (aC tL (bF aV (aA (aB 4) aE)) (eC (.int 0))))
    (aN 4 (dG (aA (aC aY (aB 4) (eC (.int 0))) (aA (aC aY (aB 4) (eC (.int 1))) (aA (aC bO (aC aY (aB 4) (eC (.int 2))) (aB 1)) (aA (aC bO (aC aY (aB 4) (eC (.int 3))) (aB 1)) aE))))))
    bY)
   (sX (kU 2 eX (aZ (dG (aA (aB 3) (aA (aB 4) aE))))))))
  (aU (aB 2)))) (fA 5 [.lst (R.map aO),.int m])) fun d=>d=.lst ((R.map (oC m)).map aO):=by
  @cV [.ro (.lst (R.map aO)),.ro (.int m),.ow (.lst []),.no,.no] rfl ?_
  @kK (fun ρ=>∃ v3 v4,ρ=[.ro (.lst (R.map aO)),.ro (.int m),.ow (.lst ((R.map (oC m)).map aO)),v3,v4]) ?_ fun ρ ⟨v3,v4,e⟩=>by subst e; !qG _ rfl rfl
  @CV (R.map aO) (fun i ρ=>∃ v3 v4,ρ=[.ro (.lst (R.map aO)),.ro (.int m),.ow (.lst (((R.take i).map (oC m)).map aO)),v3,v4]) rfl ⟨_,_,rfl⟩ (fun i d ρ hd ⟨v3,v4,e⟩=>?_) fun ρ h=>by rw [List.length_map,List.take_length] at h; !h
  subst e
  rw [List.getElem?_map] at hd
  &⟨r,hr,rfl⟩:=Option.map_eq_some_iff.1 hd
  have hil:=(List.getElem?_eq_some_iff.1 hr).1
  have ok:=g i r hr
  have tk:(R.take (i+1)).map (oC m)=(R.take i).map (oC m)++[oC m r]:=by
   rw [List.take_succ,hr,List.map_append]
   rfl
  @⟨[.ro (.lst (R.map aO)),.ro (.int m),.ow (.lst (((R.take i).map (oC m)).map aO)),.ro (aJ r.1),.ro (tupI r.2)],rfl,?_⟩
  @tN (fun ρ=>ρ=[.ro (.lst (R.map aO)),.ro (.int m),.ow (.lst (((R.take i).map (oC m)).map aO)),.ro (aJ r.1),.ro (tupI (oC m r).2)]) ?_ fun ρ e=>?_
  ·rcases ok.why with ⟨l0,w0⟩ | ⟨a,b,p,q,u,v,l0,w0,_⟩
   ·have e0:(oC m r).2=r.2:=by ~oC; rw [w0]
    rw [e0,w0]
    !jG false rfl (fun h=>by cases h) fun _=>iS rfl
   ·have e0:(oC m r).2=[a,b,(p:Int)+m,(q:Int)+m]:=by ~oC; rw [w0]
    rw [e0,w0]
    !jG true rfl (fun _=>tO (tupI [a,b,(p:Int)+m,(q:Int)+m]) rfl rfl) fun h=>by cases h
  ·subst e
   @⟨_,NS (d:=aO (oC m r)) (ds:=((R.take i).map (oC m)).map aO) (by ~aO; rw [xG]; !NN rfl rfl) rfl (by rw [List.length_map,List.length_map,List.length_take]; omega),.ro (aJ r.1),.ro (tupI (oC m r).2),?_⟩
   rw [tk,List.map_append (f:=aO)]
   rfl
 &⟨d,e,rfl⟩:=qH rfl main
 !e
##GoodR.moved {n:Nat} {A R:List PR} (ga:GoodR n A) (gr:GoodR n R):GoodR n (A++R.map (oC A.length)):=fun i r hi=>by
 by_cases h:i<A.length
 ·rw [List.getElem?_append_left h] at hi
  !(ga i r hi).app (Nat.le_refl _)
 ·rw [List.getElem?_append_right °,List.getElem?_map] at hi
  &⟨s,hs,rfl⟩:=Option.map_eq_some_iff.1 hi
  have ok:=gr _ s hs
  @⟨by rw [xG]; !ok.rows,by rw [xG]; !ok.len,?_⟩
  rw [xG]
  rcases ok.why with ⟨l0,w0⟩ | ⟨a,b,p,q,u,v,l0,w0,ha,hb,hlo,hp,hq,up,W5,vq,W6⟩
  ·@.inl ⟨l0,?_⟩
   ~oC
   rw [w0]
  ·have at2:∀ {c:Nat} {z:PR},R[c]? = some z->(A++R.map (oC A.length))[c+A.length]? = some (oC A.length z):=fun {c z} hz=>by
    rw [List.getElem?_append_right °,List.getElem?_map,show c+A.length - A.length=c by omega,hz]
    rfl
   @.inr ⟨a,b,p+A.length,q+A.length,oC A.length u,oC A.length v,l0,?_,ha,hb,hlo,by omega,by omega,at2 up,by rw [xG]; !W5,at2 vq,by rw [xG]; !W6⟩
   ~oC
   rw [w0]
   rfl
##GoodR.twice {n:Nat} {R T:List PR} {l:PR} (g:GoodR n (R++[l])) (hT:∀ t∈T,t∈R++[l]):GoodR n (R++T)/\p5 n (R++T) (R++T).length l:=by
 have low:∀ {i:Nat} {r:PR} {j:Nat},(R++[l])[i]? = some r->R.length<=j->p5 n (R++T) j r:=fun {i r j} hi hj=>by
  have ok:=g i r hi
  have hil:=(List.getElem?_eq_some_iff.1 hi).1
  rw [List.length_append,List.length_cons,List.length_nil] at hil
  @⟨ok.rows,ok.len,?_⟩
  rcases ok.why with z | ⟨a,b,p,q,u,v,l0,w0,ha,hb,hlo,hp,hq,up,W5,vq,W6⟩
  ·!.inl z
  ·have cut:∀ {c:Nat} {z:PR},c<R.length->(R++[l])[c]? = some z->(R++T)[c]? = some z:=fun {c z} hc hz=>by
    rw [List.getElem?_append_left hc] at hz ⊢
    !hz
   !.inr ⟨a,b,p,q,u,v,l0,w0,ha,hb,hlo,by omega,by omega,cut ° up,W5,cut ° vq,W6⟩
 @⟨fun i r hi=>?_,low (i:=R.length) (by rw [List.getElem?_append_right (Nat.le_refl _),Nat.sub_self]; rfl) (by rw [List.length_append]; omega)⟩
 by_cases h:i<R.length
 ·rw [List.getElem?_append_left h] at hi
  have h2:(R++[l])[i]? = some r:=by rw [List.getElem?_append_left h]; !hi
  have ok:=g i r h2
  @⟨ok.rows,ok.len,?_⟩
  rcases ok.why with z | ⟨a,b,p,q,u,v,l0,w0,ha,hb,hlo,hp,hq,up,W5,vq,W6⟩
  ·!.inl z
  ·have cut:∀ {c:Nat} {z:PR},c<R.length->(R++[l])[c]? = some z->(R++T)[c]? = some z:=fun {c z} hc hz=>by
    rw [List.getElem?_append_left hc] at hz ⊢
    !hz
   !.inr ⟨a,b,p,q,u,v,l0,w0,ha,hb,hlo,hp,hq,cut ° up,W5,cut ° vq,W6⟩
 ·rw [List.getElem?_append_right °] at hi
  &⟨j,hj⟩:=List.mem_iff_getElem?.1 (hT r (List.mem_of_getElem? hi))
  !low hj °
##S6 {ns:List Int} (h:ns≠[]):CL ns∈ns:=by
 cases ns with
 | nil=>!absurd rfl h
 | cons a l =>
  have go:∀ (l:List Int) (a:Int),l.foldl (fun m b=>if m<b then b else m) a=a\/l.foldl (fun m b=>if m<b then b else m) a∈l:=by
   intro l
   induction l with
   | nil=>intro a; !.inl rfl
   | cons b l ih =>
    intro a
    rw [List.foldl_cons]
    rcases ih (if a<b then b else a) with z | z
    ·rw [z]
     split
     ·!.inr List.mem_cons_self
     ·!.inl rfl
    ·!.inr (List.mem_cons_of_mem _ z)
  show l.foldl (fun m b=>if m<b then b else m) a∈a::l
  rcases go l a with z | z
  ·rw [z]; !List.mem_cons_self
  ·!List.mem_cons_of_mem _ z
##vX {R:List PR} {i:Nat} {r:PR} (h:R[i]? = some r):aY (.lst (R.map aO)) (.int (i:Int))=some (aO r):=vW h
##BD {R:List PR} {l u:PR} {p:Nat} (hp:R[p]? = some u) (hR:R.length<15000000):∃ (c:Nat) (v:PR),R[c]? = some v/\v.1=u.1/\cJ [.lst ((R++[l]).map aO),.int p]=.ok (.int c):=by
 have hpl:=(List.getElem?_eq_some_iff.1 hp).1
 let F:List Int:=(bG 0 R.length).filter fun i=>decide (((R[i.toNat]?).getD ([],[])).1=u.1)
 have hF:F≠[]:=by
  have:(p:Int)∈F:=List.mem_filter.2 ⟨cB.2 ⟨by omega,by omega⟩,by rw [Int.toNat_natCast,hp]; !decide_eq_true rfl⟩
  intro e
  rw [e] at this
  cases this
 have hm:=S6 hF
 &⟨m1,m2⟩:=List.mem_filter.1 hm
 have mr:=cB.1 m1
 obtain ⟨c,hc⟩:∃ c:Nat,CL F=(c:Int):=⟨(CL F).toNat,by omega⟩
 rw [hc] at m2 mr
 have hcl:c<R.length:=by omega
 @⟨c,R[c],List.getElem?_eq_getElem hcl,?_,?_⟩
 ·have:=of_decide_eq_true m2
  rw [Int.toNat_natCast,List.getElem?_eq_getElem hcl] at this
  !this
 ·~cJ
  @jP rfl (kH (dJ (x:=aK F) (mE ((bG 0 R.length).map D.int) ?_ (by rw [List.length_map,aQ]; omega) (jF D.int (fun i=>decide (((R[i.toNat]?).getD ([],[])).1=u.1)) D.int _ fun i hi=>?_)) ?_))
  ·@RO (aM (x:=.int ((R.length:Int)+1)) (y:=.int 1) (dJ (x:=.lst ((R++[l]).map aO)) rfl ?_) rfl ?_) °
   ·show some (D.int ((R++[l]).map aO).length)=_
    rw [List.length_map,List.length_append]
    rfl
   ·rw [rO]
    congr 2
    omega
  ·have hr:=cB.1 hi
   have hil:i.toNat<R.length:=by omega
   have e1:(R++[l])[i.toNat]? = some R[i.toNat]:=vT (List.getElem?_eq_getElem hil)
   have e2:(R++[l])[p]? = some u:=vT hp
   have r1:=vX e1
   rw [show ((i.toNat:Nat):Int)=i by omega] at r1
   @⟨[some (.int i),some (.lst ((R++[l]).map aO)),some (.int p)],rfl,mZ (d:=.bl (decide (R[i.toNat].1=u.1))) (aM (x:=aJ R[i.toNat].1) (y:=aJ u.1) (aM (x:=aO R[i.toNat]) (y:=.int 0) (aM (x:=.lst ((R++[l]).map aO)) (y:=.int i) rfl rfl r1) rfl rfl) (aM (x:=aO u) (y:=.int 0) (aM (x:=.lst ((R++[l]).map aO)) (y:=.int p) rfl rfl (vX e2)) rfl rfl) (SX _ _)) ?_,fun _=>rfl⟩
   rw [List.getElem?_eq_getElem hil]
   rfl
  ·show (intsOf (F.map D.int)).bind _=_
   rw [eK]
   show (if F=[] then none else some (D.int (CL F)))=_
   rw [if_neg hF,hc]
##S7 (ns:List Int) (k s:Int):∃ x:List (List Int),x.length<=9/\Ord.Rows x/\iY [.jW ns,.int k,.int s]=.ok (aJ x):=by
 &⟨c1,ec1⟩:=vQ ns k
 &⟨hs,hsl,hsp,eh⟩:=rS c1 3 s § §
 &⟨c2,ec2⟩:=vQ ns (k+1)
 match hs,hsl,hsp,eh with
 | [p,q,r],_,hsp,eh =>
  have p0:=Int.emod_nonneg p (b:=8) §
  have p1:=Int.emod_lt_of_pos p (b:=8) §
  have q0:=Int.emod_nonneg q (b:=8) §
  have q1:=Int.emod_lt_of_pos q (b:=8) §
  have p2:=Int.emod_nonneg p (b:=4) §
  have p3:=Int.emod_lt_of_pos p (b:=4) §
  have at8:∀ (l:List Int) (z:Int),l.length=8->0<=z->z<8 -> ∃ v∈l,aY (aK l) (.int z)=some (.int v):=fun l z hl h0 h1=>⟨at0 l z,YA h0 °,w4 h0 °⟩
  &⟨n0,hn0,en0⟩:=at8 [5,4,3,5,4,2,1,0] (p % 8) rfl p0 p1
  &⟨t0,ht0,et0⟩:=at8 [1,1,2,2,3,1,0,2] (q % 8) rfl q0 q1
  have hn5:0<=n0/\n0<=5:=by
   simp at hn0
   omega
  have fin:Rt ((fun b=>b (fA 8 [.jW ns,.int k,.int s])) (aH (aN 3 (aG LL.bX (aA (aG LL.cM (aA (aB 0) (aA (aB 1) aE))) (aA (eC (.int 3)) (aA (aB 2) aE)))))
  (aH (aN 4 (aC aY (dL (aA (eC (.int 5)) (aA (eC (.int 4)) (aA (eC (.int 3)) (aA (eC (.int 5)) (aA (eC (.int 4)) (aA (eC (.int 2)) (aA (eC (.int 1)) (aA (eC (.int 0)) aE))))))))) (aC dI (aC aY (aB 3) (eC (.int 0))) (eC (.int 8)))))
  (aH (aN 5 (aC aY (dL (aA (eC (.int 1)) (aA (eC (.int 1)) (aA (eC (.int 2)) (aA (eC (.int 2)) (aA (eC (.int 3)) (aA (eC (.int 1)) (aA (eC (.int 0)) (aA (eC (.int 2)) aE))))))))) (aC dI (aC aY (aB 3) (eC (.int 1))) (eC (.int 8)))))
  (aH (eV (tV (aC kT (aC dI (aC aY (aB 3) (eC (.int 2))) (eC (.int 8))) (eC (.int 3))))
   (aH (aN 4 (aC bO (eC (.int 6)) (aC dI (aC aY (aB 3) (eC (.int 0))) (eC (.int 4)))))
   (aN 5 (eC (.int 3))))
   bY)
  (aH (aN 6 (aG LL.bX (aA (aG LL.cM (aA (aB 0) (aA (aC bO (aB 1) (eC (.int 1))) aE))) (aA (aC bO (aB 4) (aC mX (aC mulM (aB 4) (aC fE (aB 4) (eC (.int 1)))) (eC (.int 2)))) (aA (aC bO (aB 2) (eC (.int 10007))) aE)))))
  (aH (aN 7 (aG LL.dM (aA (aB 6) (aA (aB 4) (aA (aB 5) aE)))))
  (aH (eV (kX (tV (aC tL (aB 4) (eC (.int 5)))) (tV (aC tL (aG LL.gB (aA (aB 7) aE)) (eC (.int 60)))))
   (aN 7 (aG LL.dM (aA (aB 6) (aA (aB 4) (aA (eC (.int 4)) aE)))))
   bY)
  (aU (aB 7)))))))))) fun d=>∃ x:List (List Int),x.length<=9/\Ord.Rows x/\d=aJ x:=by
   @cV [.ro (.jW ns),.ro (.int k),.ro (.int s),.ro (aK [p,q,r]),.no,.no,.no,.no] (iE _ (fL (eM rfl rfl ec1) rfl rfl eh) rfl) ?_
   @cV [.ro (.jW ns),.ro (.int k),.ro (.int s),.ro (aK [p,q,r]),.ro (.int n0),.no,.no,.no] (iE _ (aM (x:=aK [5,4,3,5,4,2,1,0]) (y:=.int (p % 8)) rfl (aM (x:=.int p) (y:=.int 8) rfl rfl (bZ §)) en0) rfl) ?_
   @cV [.ro (.jW ns),.ro (.int k),.ro (.int s),.ro (aK [p,q,r]),.ro (.int n0),.ro (.int t0),.no,.no] (iE _ (aM (x:=aK [1,1,2,2,3,1,0,2]) (y:=.int (q % 8)) rfl (aM (x:=.int q) (y:=.int 8) rfl rfl (bZ §)) et0) rfl) ?_
   @kK (fun ρ=>∃ (n:Nat) (t:Int),n<=9/\ρ=[.ro (.jW ns),.ro (.int k),.ro (.int s),.ro (aK [p,q,r]),.ro (.int n),.ro (.int t),.no,.no]) ?_ fun ρ ⟨n,t,hn,e⟩=>?_
   ·@jG (decide (r % 8=3)) (mZ (aM (x:=.int (r % 8)) (y:=.int 3) (aM (x:=.int r) (y:=.int 8) rfl rfl (bZ §)) rfl fV) rfl) (fun _=>?_) fun _=>iS ⟨n0.toNat,t0,by omega,by rw [show ((n0.toNat:Nat):Int)=n0 by omega]⟩
    @fN [.ro (.jW ns),.ro (.int k),.ro (.int s),.ro (aK [p,q,r]),.ro (.int (6+p % 4)),.ro (.int t0),.no,.no] (iE (.int (6+p % 4)) (aM (x:=.int 6) (y:=.int (p % 4)) rfl (aM (x:=.int p) (y:=.int 4) rfl rfl (bZ §)) jE) rfl) ?_
    !tO (.int 3) rfl ⟨(6+p % 4).toNat,3,by omega,by rw [show (((6+p % 4).toNat:Nat):Int)=6+p % 4 by omega]; rfl⟩
   subst e
   have aQ8:=LC n
   have hdv:((n:Int)*((n:Int) - 1) / 2)=(Ord.tri n:Int):=by
    have:(n:Int)*((n:Int) - 1)=2*(Ord.tri n:Int):=by
     rw [Int.mul_sub,Int.mul_one]
     have:((n*n:Nat):Int)=(n:Int)*n:=by rw [Int.natCast_mul]
     omega
    rw [this]
    omega
   have tl:Ord.tri n<=81:=by
    have:n*n<=9*9:=Nat.mul_le_mul hn hn
    omega
   &⟨dr,drl,drp,edr⟩:=rS c2 ((n:Int)+(Ord.tri n:Int)) (s+10007) ° °
   have hdl:dr.length=n+Ord.tri n:=by omega
   @cV [.ro (.jW ns),.ro (.int k),.ro (.int s),.ro (aK [p,q,r]),.ro (.int n),.ro (.int t),.ro (aK dr),.no] (iE _ (fL (x:=.int c2) (y:=.int ((n:Int)+(Ord.tri n:Int))) (z:=.int (s+10007)) (eM (x:=.jW ns) (y:=.int (k+1)) rfl rfl ec2) (aM (x:=.int n) (y:=.int (Ord.tri n)) rfl (aM (x:=.int ((n:Int)*((n:Int) - 1))) (y:=.int 2) (aM (x:=.int n) (y:=.int ((n:Int) - 1)) rfl rfl (qF °)) rfl (by rw [mD § §,hdv])) jE) rfl edr) rfl) ?_
   &⟨d1,o1,x1,l1,r1,rfl⟩:=wU dr n t hn °
   &⟨d2,o2,x2,l2,r2,rfl⟩:=wU dr n 4 hn °
   @cV [.ro (.jW ns),.ro (.int k),.ro (.int s),.ro (aK [p,q,r]),.ro (.int n),.ro (.int t),.ro (aK dr),.ro (aJ x1)] (iE _ (fL rfl rfl rfl o1) rfl) ?_
   @kK (fun ρ=>∃ x:List (List Int),(x.length<=9/\Ord.Rows x)/\ρ=[.ro (.jW ns),.ro (.int k),.ro (.int s),.ro (aK [p,q,r]),.ro (.int n),.ro (.int t),.ro (aK dr),.ro (aJ x)]) ?_ fun ρ ⟨x,hx,e⟩=>by subst e; !qG _ rfl ⟨x,hx.1,hx.2,rfl⟩
   @jG (decide ((5:Int)<n)&&decide ((60:Int)<(shares x1).sum)) (AU (b:=decide ((5:Int)<n)) (mZ (aM (x:=.int n) (y:=.int 5) rfl rfl jX) rfl) (fun h=>?_) fun h=>by rw [h]; rfl) (fun _=>tO (aJ x2) (fL rfl rfl rfl o2) ⟨x2,⟨by omega,r2⟩,rfl⟩) fun _=>iS ⟨x1,⟨by omega,r1⟩,rfl⟩
   rw [h,Bool.true_and]
   !mZ (aM (x:=.int (shares x1).sum) (y:=.int 60) (mY rfl (FI r1 °)) rfl jX) rfl
  ~iY
  &⟨d,e,x,h1,h2,rfl⟩:=qH rfl fin
  !⟨x,h1,h2,e⟩
##LX {ds:List D} {d:D}:slM (.lst (ds++[d])) none (some (-1))=some (.lst ds):=by
 show some (D.lst (wD (ds++[d]) none (some (-1))))=_
 ~wD EU
 dsimp only
 rw [if_pos §,show (-1+((ds++[d]).length:Int)).toNat=ds.length by rw [List.length_append,List.length_cons,List.length_nil]; omega,List.drop_zero,Nat.sub_zero,List.take_left]
##YH {ds:List D} {d:D}:slM (.lst (ds++[d])) (some (-1)) none=some (.lst [d]):=by
 show some (D.lst (wD (ds++[d]) (some (-1)) none))=_
 ~wD EU
 dsimp only
 rw [if_pos §,show (-1+((ds++[d]).length:Int)).toNat=ds.length by rw [List.length_append,List.length_cons,List.length_nil]; omega,List.drop_left,show (ds++[d]).length - ds.length=1 by rw [List.length_append,List.length_cons,List.length_nil]; omega]
 rfl
##slE {f:EF} {lo hi:OF} {ρ:bR} {d:D} {l h:Option Int} {z:Option D} (hf:f ρ=some d) (hl:lo ρ=some l) (hh:hi ρ=some h) (e:slM d l h=z):K0 f lo hi ρ=z:=by
 ~K0
 rw [hf,hl,hh]
 !e
##YI (l:List Int) (lo hi:Option Int):∃ m:List Int,slM (aK l) lo hi=some (aK m):=by
 @⟨(l.drop (EU (l.map D.int).length 0 lo)).take (EU (l.map D.int).length (l.map D.int).length hi - EU (l.map D.int).length 0 lo),?_⟩
 show some (D.lst (wD (l.map D.int) lo hi))=some (D.lst _)
 ~wD
 rw [List.map_take,List.map_drop]
##N0 (ns:List Int):∃ (x:List (List Int)) (R:List PR) (w:List Int),x.length<=9/\Ord.Rows x/\GoodR x.length (R++[(x,w)])/\R.length<=3000000/\i0 [.jW ns]=.ok (.tup [aJ x,.lst ((R++[(x,w)]).map aO)]):=by
 &⟨x,hn,hx,ex⟩:=S7 ns 0 100003
 &⟨c2,ec2⟩:=vQ ns 2
 &⟨dr,drl,drp,edr⟩:=rS c2 45 200017 § §
 &⟨c3,ec3⟩:=vQ ns 3
 &⟨sz,szl,szp,esz⟩:=rS c3 7 300007 § §
 have hd:dr.length=45:=drl
 have hz:sz.length=7:=szl
 &⟨R0,w0,g0,l0,e0⟩:=FL hx hn hd
 have g9:=SW hn
 have S8:∀ {ρ:bR} {j:Int},ρ[3]? = some (some (aK sz))->0<=j->j<7->aC aY (aB 3) (eC (.int j)) ρ=some (.int (at0 sz j)):=fun {ρ j} h h0 h1=>aM (x:=aK sz) (y:=.int j) (by ~aB; rw [h]; rfl) rfl (w4 h0 °)
 ~i0
 have fin:Rt ((fun b=>b (fA 9 [.jW ns])) (aH (aN 1 (aG LL.iY (aA (aB 0) (aA (eC (.int 0)) (aA (eC (.int 100003)) aE)))))
  (aH (aN 2 (aG LL.bX (aA (aG LL.cM (aA (aB 0) (aA (eC (.int 2)) aE))) (aA (eC (.int 45)) (aA (eC (.int 200017)) aE)))))
  (aH (aN 3 (aG LL.bX (aA (aG LL.cM (aA (aB 0) (aA (eC (.int 3)) aE))) (aA (eC (.int 7)) (aA (eC (.int 300007)) aE)))))
  (aH (aN 4 (aG LL.fX (aA (aB 1) (aA (aB 2) aE))))
  (aH (eV (tV (aC kT (aC dI (aC aY (aB 3) (eC (.int 0))) (eC (.int 3))) (eC (.int 1))))
   (aH (aN 5 (aG LL.dM (aA (aC bO (K0 (aB 3) (oE (eC (.int 1))) (oE (eC (.int 5)))) (aB 2)) (aA (bF aV (aA (aB 1) aE)) (aA (eC (.int 3)) aE)))))
   (eV (tV (aC W9 (aC bO (aC mulM (eC (.int 2)) (aG LL.gB (aA (aB 5) aE))) (bF aV (aA (aB 4) aE))) (eC (.int 280))))
    (aH (aN 6 (aG LL.fX (aA (aB 5) (aA (aB 2) aE))))
    (aN 4 (aC bO (aB 6) (aG LL.iZ (aA (aB 4) (aA (bF aV (aA (aB 6) aE)) aE))))))
    bY))
   bY)
  (aH (iA 7 (bJ 1 [4,3] (aR (aA (aC dI (aC aY (aB 3) (eC (.int 3))) (eC (.int 4))) aE)) (g1 0) cH (aC aY (aB 1) (aC dI (aC bO (aC aY (aB 2) (eC (.int 1))) (aC mulM (aB 0) (aC aY (aB 2) (eC (.int 2))))) (bF aV (aA (aB 1) aE))))))
  (aH (aN 8 (aC aY (aC aY (aB 4) (mW (eC (.int 1)))) (eC (.int 1))))
  (aH (eV (kX (tV (aC tL (bF aV (aA (aB 8) aE)) (eC (.int 0)))) (tV (aC kT (aC dI (aC aY (aB 3) (eC (.int 5))) (eC (.int 2))) (eC (.int 1)))))
   (sX (kU 7 eX (aZ (aC aY (aB 4) (aC aY (aB 8) (aC bO (eC (.int 2)) (aC dI (aC aY (aB 3) (eC (.int 6))) (eC (.int 2)))))))))
   bY)
  (aH (lZ 4 (aC ES (aC bO (K0 (aB 4) W3 (oE (mW (eC (.int 1))))) (aB 7)) (K0 (aB 4) (oE (mW (eC (.int 1)))) W3)))
  (aH (eV (kX (tV (aC tL (bF aV (aA (aB 8) aE)) (eC (.int 0)))) (tV (aC kT (aC dI (aC mX (aC aY (aB 3) (eC (.int 5))) (eC (.int 2))) (eC (.int 2))) (eC (.int 1)))))
   (aN 8 (dG (aA (aC aY (aB 8) (eC (.int 0))) (aA (aC aY (aB 8) (eC (.int 1))) (aA (aG LL.cJ (aA (aB 4) (aA (aC aY (aB 8) (eC (.int 2))) aE))) (aA (aG LL.cJ (aA (aB 4) (aA (aC aY (aB 8) (eC (.int 3))) aE))) aE))))))
   bY)
  (aU (dG (aA (aB 1) (aA (aC bO (K0 (aB 4) W3 (oE (mW (eC (.int 1))))) (dL (aA (dG (aA (aC aY (aC aY (aB 4) (mW (eC (.int 1)))) (eC (.int 0))) (aA (aB 8) aE))) aE))) aE))))))))))))))) fun d=>∃ (R:List PR) (w:List Int),GoodR x.length (R++[(x,w)])/\R.length<=3000000/\d=.tup [aJ x,.lst ((R++[(x,w)]).map aO)]:=by
  @cV [.ro (.jW ns),.ro (aJ x),.no,.no,.no,.no,.no,.no,.no] (iE _ (fL rfl rfl rfl ex) rfl) ?_
  @cV [.ro (.jW ns),.ro (aJ x),.ro (aK dr),.no,.no,.no,.no,.no,.no] (iE _ (fL (eM rfl rfl ec2) rfl rfl edr) rfl) ?_
  @cV [.ro (.jW ns),.ro (aJ x),.ro (aK dr),.ro (aK sz),.no,.no,.no,.no,.no] (iE _ (fL (eM rfl rfl ec3) rfl rfl esz) rfl) ?_
  @cV [.ro (.jW ns),.ro (aJ x),.ro (aK dr),.ro (aK sz),.ro (.lst ((R0++[(x,w0)]).map aO)),.no,.no,.no,.no] (iE _ (eM rfl rfl e0) rfl) ?_
  have len0:∀ A:List PR,aV [.lst (A.map aO)]=some (.int A.length):=fun A=>by
   show some (D.int (A.map aO).length)=_
   rw [List.length_map]
  @kK (fun ρ=>∃ (R:List PR) (w:List Int) (v5 v6:Sv),(GoodR x.length (R++[(x,w)])/\R.length<=2000000)/\ρ=[.ro (.jW ns),.ro (aJ x),.ro (aK dr),.ro (aK sz),.ro (.lst ((R++[(x,w)]).map aO)),v5,v6,.no,.no]) ?_ fun ρ ⟨R,w,v5,v6,⟨g,hRl⟩,e⟩=>?_
  ·rw [List.length_append,List.length_cons,List.length_nil] at l0
   @jG (decide (at0 sz 0 % 3=1)) (mZ (aM (x:=.int (at0 sz 0 % 3)) (y:=.int 1) (aM (x:=.int (at0 sz 0)) (y:=.int 3) (S8 rfl § §) rfl (bZ §)) rfl fV) rfl) (fun _=>?_) fun _=>iS ⟨R0,w0,.no,.no,⟨g0,by omega⟩,rfl⟩
   &⟨s4,es4⟩:=YI sz (some 1) (some 5)
   have s4l:s4.length<=7:=by
    have:slM (aK sz) (some 1) (some 5)=some (.lst (wD (sz.map D.int) (some 1) (some 5))):=rfl
    rw [es4] at this
    have h2:=congrArg (fun o=>match o with | some (D.lst l)=>l.length | _=>0) this
    change (s4.map D.int).length=(wD (sz.map D.int) (some 1) (some 5)).length at h2
    rw [List.length_map] at h2
    rw [h2]
    ~wD
    !Nat.le_trans (List.length_take_le' _ _) (Nat.le_trans (by rw [List.length_drop]; !Nat.sub_le _ _) (by rw [List.length_map]; omega))
   have aQc:x.length+Ord.tri x.length<=45:=by
    have t1:=LC x.length
    have t2:x.length*x.length<=9*x.length:=Nat.mul_le_mul_right _ hn
    omega
   &⟨d1,o1,y,ly,ry,rfl⟩:=wU (s4++dr) x.length 3 hn (by rw [List.length_append]; omega)
   @fN [.ro (.jW ns),.ro (aJ x),.ro (aK dr),.ro (aK sz),.ro (.lst ((R0++[(x,w0)]).map aO)),.ro (aJ y),.no,.no,.no] (iE _ (fL (x:=aK (s4++dr)) (y:=.int x.length) (z:=.int 3) (aM (x:=aK s4) (y:=aK dr) (slE (d:=aK sz) rfl rfl rfl es4) rfl ?_) (dJ rfl dZ) rfl o1) rfl) ?_
   ·~aK
    rw [kJ (by rw [List.length_map,List.length_map]; omega),List.map_append]
   have gy:=SW (x:=y) °
   have mb:=qM ry
   have ml:=LO (x:=y)
   have mg:(shares y).sum=(gl y:Int):=by rw [<- ml]; rfl
   @jG (decide (2*(shares y).sum+((R0++[(x,w0)]).length:Int)<=280)) (mZ (aM (x:=.int (2*(shares y).sum+((R0++[(x,w0)]).length:Int))) (y:=.int 280) (aM (x:=.int (2*(shares y).sum)) (y:=.int (R0++[(x,w0)]).length) (aM (x:=.int 2) (y:=.int (shares y).sum) rfl (mY rfl (FI ry °)) (qF §)) (dJ rfl (len0 _)) jE) rfl CP) rfl) (fun _=>?_) fun _=>iS ⟨R0,w0,.ro (aJ y),.no,⟨g0,by omega⟩,rfl⟩
   &⟨R1,w1,g1,l1,e1⟩:=FL ry ° hd
   rw [ly] at g1
   @fN [.ro (.jW ns),.ro (aJ x),.ro (aK dr),.ro (aK sz),.ro (.lst ((R0++[(x,w0)]).map aO)),.ro (aJ y),.ro (.lst ((R1++[(y,w1)]).map aO)),.no,.no] (iE _ (eM rfl rfl e1) rfl) ?_
   have gm:=g1.moved g0
   have mv:=S5 (m:=(R1++[(y,w1)]).length) g0 (by rw [List.length_append,List.length_cons,List.length_nil]; omega)
   generalize R1++[(y,w1)]=A at *
   have spl:A++(R0++[(x,w0)]).map (oC A.length)=(A++R0.map (oC A.length))++[(x,(oC A.length (x,w0)).2)]:=by
    rw [List.map_append,<- List.append_assoc]
    congr 1
    show [oC A.length (x,w0)]=_
    congr 1
    !Prod.ext (xG _ _) rfl
   rw [spl] at gm
   @tO (.lst (((A++R0.map (oC A.length))++[(x,(oC A.length (x,w0)).2)]).map aO)) (aM (x:=.lst (A.map aO)) (y:=.lst (((R0++[(x,w0)]).map (oC A.length)).map aO)) rfl (eM (x:=.lst ((R0++[(x,w0)]).map aO)) (y:=.int A.length) rfl (dJ rfl (len0 _)) mv) ?_) ⟨A++R0.map (oC A.length),(oC A.length (x,w0)).2,.ro (aJ y),.ro (.lst (A.map aO)),⟨gm,by rw [List.length_append,List.length_map]; omega⟩,rfl⟩
   rw [kJ (by rw [List.length_map,List.length_map,List.length_map,List.length_append,List.length_cons,List.length_nil]; omega),<- List.map_append,spl]
  subst e
  have hA:(R++[(x,w)]).length=R.length+1:=by rw [List.length_append,List.length_cons,List.length_nil]
  -- rows told twice
  have m30:=Int.emod_nonneg (at0 sz 3) (b:=4) §
  have m31:=Int.emod_lt_of_pos (at0 sz 3) (b:=4) §
  let pick:Int->PR:=fun k=>((R++[(x,w)])[((at0 sz 1+k*at0 sz 2) % ((R++[(x,w)]).length:Int)).toNat]?).getD (x,w)
  have DH:∀ k:Int,(R++[(x,w)])[((at0 sz 1+k*at0 sz 2) % ((R++[(x,w)]).length:Int)).toNat]? = some (pick k)/\0<=(at0 sz 1+k*at0 sz 2) % ((R++[(x,w)]).length:Int):=fun k=>by
   have h0:=Int.emod_nonneg (at0 sz 1+k*at0 sz 2) (show ((R++[(x,w)]).length:Int)≠0 by omega)
   have h1:=Int.emod_lt_of_pos (at0 sz 1+k*at0 sz 2) (show (0:Int)<((R++[(x,w)]).length:Int) by omega)
   @⟨?_,h0⟩
   show _=some (((R++[(x,w)])[((at0 sz 1+k*at0 sz 2) % ((R++[(x,w)]).length:Int)).toNat]?).getD (x,w))
   rw [List.getElem?_eq_getElem °]
   rfl
  let T0:List PR:=(bG 0 (at0 sz 3 % 4).toNat).map pick
  have T0l:T0.length<=4:=by
   show ((bG 0 (at0 sz 3 % 4).toNat).map pick).length<=4
   rw [List.length_map,aQ]
   omega
  have T0m:∀ t∈T0,t∈R++[(x,w)]:=fun t ht=>by
   &⟨k,_,rfl⟩:=List.mem_map.1 ht
   !List.mem_of_getElem? (DH k).1
  @cV [.ro (.jW ns),.ro (aJ x),.ro (aK dr),.ro (aK sz),.ro (.lst ((R++[(x,w)]).map aO)),v5,v6,.ow (.lst (T0.map aO)),.no] (aI2 ?_) ?_
  ·have e5:T0.map aO=(bG 0 (at0 sz 3 % 4).toNat).map fun k=>aO (pick k):=by
    show ((bG 0 (at0 sz 3 % 4).toNat).map pick).map aO=_
    rw [List.map_map]
    rfl
   rw [e5]
   @mE ((bG 0 (at0 sz 3 % 4).toNat).map D.int) ?_ (by rw [List.length_map,aQ]; omega) (iR D.int (fun k=>aO (pick k)) _ fun k hk=>?_)
   ·@RO ?_ °
    rw [show (((at0 sz 3 % 4).toNat:Nat):Int)=at0 sz 3 % 4 by omega]
    !aM (x:=.int (at0 sz 3)) (y:=.int 4) (S8 rfl § §) rfl (bZ §)
   ·have hr:=cB.1 hk
    @⟨[some (.int k),some (.lst ((R++[(x,w)]).map aO)),some (aK sz)],rfl,?_⟩
    have i1:aY (aK sz) (.int 1)=some (.int (at0 sz 1)):=w4 § °
    have i2:aY (aK sz) (.int 2)=some (.int (at0 sz 2)):=w4 § °
    @aM (x:=.lst ((R++[(x,w)]).map aO)) (y:=.int ((at0 sz 1+k*at0 sz 2) % ((R++[(x,w)]).length:Int))) rfl (aM (x:=.int (at0 sz 1+k*at0 sz 2)) (y:=.int (R++[(x,w)]).length) (aM (x:=.int (at0 sz 1)) (y:=.int (k*at0 sz 2)) (aM (x:=aK sz) (y:=.int 1) rfl rfl i1) (aM (x:=.int k) (y:=.int (at0 sz 2)) rfl (aM (x:=aK sz) (y:=.int 2) rfl rfl i2) (qF °)) jE) (dJ rfl (len0 _)) (bZ °)) ?_
    have:=vX (DH k).1
    rw [show ((((at0 sz 1+k*at0 sz 2) % ((R++[(x,w)]).length:Int)).toNat:Nat):Int)=(at0 sz 1+k*at0 sz 2) % ((R++[(x,w)]).length:Int) by have:=(DH k).2; omega] at this
    !this
  have okL:p5 x.length (R++[(x,w)]) R.length (x,w):=g R.length (x,w) (by rw [List.getElem?_append_right (Nat.le_refl _),Nat.sub_self]; rfl)
  have aEH:aY (.lst ((R++[(x,w)]).map aO)) (.int (-1))=some (aO (x,w)):=by rw [List.map_append]; !vU
  @cV [.ro (.jW ns),.ro (aJ x),.ro (aK dr),.ro (aK sz),.ro (.lst ((R++[(x,w)]).map aO)),v5,v6,.ow (.lst (T0.map aO)),.ro (tupI w)] (iE (tupI w) (aM (x:=aO (x,w)) (y:=.int 1) (aM (x:=.lst ((R++[(x,w)]).map aO)) (y:=.int (-1)) rfl rfl aEH) rfl rfl) rfl) ?_
  have aEI:aV [tupI w]=some (.int w.length):=E4
  @kK (fun ρ=>∃ T:List PR,(T.length<=5 /\ ∀ t∈T,t∈R++[(x,w)])/\ρ=[.ro (.jW ns),.ro (aJ x),.ro (aK dr),.ro (aK sz),.ro (.lst ((R++[(x,w)]).map aO)),v5,v6,.ow (.lst (T.map aO)),.ro (tupI w)]) ?_ fun ρ ⟨T,⟨Tl,Tm⟩,e⟩=>?_
  ·@jG (decide ((0:Int)<w.length)&&decide (at0 sz 5 % 2=1)) (AU (b:=decide ((0:Int)<w.length)) (mZ (aM (x:=.int w.length) (y:=.int 0) (dJ rfl aEI) rfl jX) rfl) (fun h=>?_) fun h=>by rw [h]; rfl) (fun hc=>?_) fun _=>iS ⟨T0,⟨by omega,T0m⟩,rfl⟩
   ·rw [h,Bool.true_and]
    !mZ (aM (x:=.int (at0 sz 5 % 2)) (y:=.int 1) (aM (x:=.int (at0 sz 5)) (y:=.int 2) (S8 rfl § §) rfl (bZ §)) rfl fV) rfl
   ·rw [Bool.and_eq_true,decide_eq_true_eq] at hc
    rcases okL.why with z | ⟨a,b,p,q,u,v,lo,S9,ha,hb,hlo,hp,hq,up,W5,vq,W6⟩
    ·have:w=[]:=z.2
     rw [this] at hc
     simp at hc
    ·have S9:w=[a,b,(p:Int),(q:Int)]:=S9
     have s0:=Int.emod_nonneg (at0 sz 6) (b:=2) §
     have s1:=Int.emod_lt_of_pos (at0 sz 6) (b:=2) §
     obtain ⟨c,t,hct,ec⟩:∃ (c:Nat) (t:PR),(R++[(x,w)])[c]? = some t/\aY (tupI w) (.int (2+at0 sz 6 % 2))=some (.int c):=by
      rcases (show at0 sz 6 % 2=0\/at0 sz 6 % 2=1 by omega) with z | z
      ·!⟨p,u,up,by rw [z,S9]; rfl⟩
      ·!⟨q,v,vq,by rw [z,S9]; rfl⟩
     @⟨_,NS (d:=aO t) (ds:=T0.map aO) (aM (x:=.lst ((R++[(x,w)]).map aO)) (y:=.int c) rfl (aM (x:=tupI w) (y:=.int (2+at0 sz 6 % 2)) rfl (aM (x:=.int 2) (y:=.int (at0 sz 6 % 2)) rfl (aM (x:=.int (at0 sz 6)) (y:=.int 2) (S8 rfl § §) rfl (bZ §)) jE) ec) (vX hct)) rfl (by rw [List.length_map]; omega),T0++[t],⟨by rw [List.length_append,List.length_cons,List.length_nil]; omega,fun s hs=>?_⟩,?_⟩
     ·rcases List.mem_append.1 hs with z | z
      ·!T0m s z
      ·rw [List.mem_singleton] at z; rw [z]; !List.mem_of_getElem? hct
     ·rw [List.map_append (f:=aO) (l₁:=T0)]
      rfl
  subst e
  &⟨gT,okT⟩:=g.twice Tm
  have hRT:(R++T).length<=2000005:=by rw [List.length_append]; omega
  @cV [.ro (.jW ns),.ro (aJ x),.ro (aK dr),.ro (aK sz),.ro (.lst ((R++T++[(x,w)]).map aO)),v5,v6,.ow (.lst (T.map aO)),.ro (tupI w)] (aAY ((R++T++[(x,w)]).map aO) ?_ (FN _) rfl) ?_
  ·@aM (x:=.lst ((R++T).map aO)) (y:=.lst [aO (x,w)]) (aM (x:=.lst (R.map aO)) (y:=.lst (T.map aO)) (slE (d:=.lst ((R++[(x,w)]).map aO)) rfl rfl rfl (by rw [List.map_append]; !LX)) rfl ?_) (slE (d:=.lst ((R++[(x,w)]).map aO)) rfl rfl rfl (by rw [List.map_append]; !YH)) ?_
   ·rw [kJ (by rw [List.length_map,List.length_map]; omega),<- List.map_append]
   ·rw [EZ (by rw [List.length_map]; simp only [List.length_cons,List.length_nil]; omega),List.map_append (l₁:=R++T)]
    rfl
  -- the later ones named
  @kK (fun ρ=>∃ w':List Int,p5 x.length (R++T) (R++T).length (x,w')/\ρ=[.ro (.jW ns),.ro (aJ x),.ro (aK dr),.ro (aK sz),.ro (.lst ((R++T++[(x,w)]).map aO)),v5,v6,.ow (.lst (T.map aO)),.ro (tupI w')]) ?_ fun ρ ⟨w',okW,e⟩=>?_
  ·@jG (decide ((0:Int)<w.length)&&decide (at0 sz 5 / 2 % 2=1)) (AU (b:=decide ((0:Int)<w.length)) (mZ (aM (x:=.int w.length) (y:=.int 0) (dJ rfl aEI) rfl jX) rfl) (fun h=>?_) fun h=>by rw [h]; rfl) (fun hc=>?_) fun _=>iS ⟨w,okT,rfl⟩
   ·rw [h,Bool.true_and]
    !mZ (aM (x:=.int (at0 sz 5 / 2 % 2)) (y:=.int 1) (aM (x:=.int (at0 sz 5 / 2)) (y:=.int 2) (aM (x:=.int (at0 sz 5)) (y:=.int 2) (S8 rfl § §) rfl (mD § §)) rfl (bZ §)) rfl fV) rfl
   ·rw [Bool.and_eq_true,decide_eq_true_eq] at hc
    rcases okT.why with z | ⟨a,b,p,q,u,v,lo,S9,ha,hb,hlo,hp,hq,up,W5,vq,W6⟩
    ·have:w=[]:=z.2
     rw [this] at hc
     simp at hc
    ·have S9:w=[a,b,(p:Int),(q:Int)]:=S9
     &⟨c1,v1,h1,h2,h3⟩:=BD (l:=(x,w)) up °
     &⟨c2,v2,k1,k2,k3⟩:=BD (l:=(x,w)) vq °
     @tO (tupI [a,b,(c1:Int),(c2:Int)]) ?_ ⟨[a,b,(c1:Int),(c2:Int)],⟨okT.rows,okT.len,.inr ⟨a,b,c1,c2,v1,v2,lo,rfl,ha,hb,hlo,(List.getElem?_eq_some_iff.1 h1).1,(List.getElem?_eq_some_iff.1 k1).1,h1,by rw [h2]; !W5,k1,by rw [k2]; !W6⟩⟩,rfl⟩
     have q0:∀ {ρ:bR},ρ[8]? = some (some (tupI w))->ρ[4]? = some (some (.lst ((R++T++[(x,w)]).map aO)))->dG (aA (aC aY (aB 8) (eC (.int 0))) (aA (aC aY (aB 8) (eC (.int 1))) (aA (aG LL.cJ (aA (aB 4) (aA (aC aY (aB 8) (eC (.int 2))) aE))) (aA (aG LL.cJ (aA (aB 4) (aA (aC aY (aB 8) (eC (.int 3))) aE))) aE)))) ρ=some (tupI [a,b,(c1:Int),(c2:Int)]):=fun {ρ} h8 h4=>by
      have e8:aB 8 ρ=some (tupI w):=by ~aB; rw [h8]; rfl
      have e4:aB 4 ρ=some (.lst ((R++T++[(x,w)]).map aO)):=by ~aB; rw [h4]; rfl
      have f0:aC aY (aB 8) (eC (.int 0)) ρ=some (.int a):=aM e8 (y:=.int 0) rfl (by rw [S9]; rfl)
      have f1:aC aY (aB 8) (eC (.int 1)) ρ=some (.int b):=aM e8 (y:=.int 1) rfl (by rw [S9]; rfl)
      have f2:aC aY (aB 8) (eC (.int 2)) ρ=some (.int (p:Int)):=aM e8 (y:=.int 2) rfl (by rw [S9]; rfl)
      have f3:aC aY (aB 8) (eC (.int 3)) ρ=some (.int (q:Int)):=aM e8 (y:=.int 3) rfl (by rw [S9]; rfl)
      ~dG
      rw [show aA (aC aY (aB 8) (eC (.int 0))) (aA (aC aY (aB 8) (eC (.int 1))) (aA (aG LL.cJ (aA (aB 4) (aA (aC aY (aB 8) (eC (.int 2))) aE))) (aA (aG LL.cJ (aA (aB 4) (aA (aC aY (aB 8) (eC (.int 3))) aE))) aE))) ρ=some [.int a,.int b,.int c1,.int c2] by
       ~aA aE
       have g2:aG LL.cJ (aA (aB 4) (aA (aC aY (aB 8) (eC (.int 2))) aE)) ρ=some (.int c1):=eM e4 f2 h3
       have g3:aG LL.cJ (aA (aB 4) (aA (aC aY (aB 8) (eC (.int 3))) aE)) ρ=some (.int c2):=eM e4 f3 k3
       ~aA aE at g2 g3
       rw [f0,f1,g2,g3]
       rfl]
      rfl
     !q0 rfl rfl
  subst e
  @qG _ ?_ ⟨R++T,w',gT.snoc okW,by omega,rfl⟩
  have aB7:aY (.lst ((R++T++[(x,w)]).map aO)) (.int (-1))=some (aO (x,w)):=by rw [List.map_append (l₁:=R++T)]; !vU
  @NN (x:=aJ x) rfl (aM (x:=.lst ((R++T).map aO)) (y:=.lst [aO (x,w')]) (slE (d:=.lst ((R++T++[(x,w)]).map aO)) rfl rfl rfl (by rw [List.map_append (l₁:=R++T)]; !LX)) ?_ ?_)
  ·~dL
   rw [args1 (x:=aO (x,w')) (NN (x:=aJ x) (y:=tupI w') (aM (x:=aO (x,w)) (y:=.int 0) (aM (x:=.lst ((R++T++[(x,w)]).map aO)) (y:=.int (-1)) rfl rfl aB7) rfl rfl) rfl)]
   rfl
  ·rw [kJ (by rw [List.length_map]; simp only [List.length_cons,List.length_nil]; omega),List.map_append (l₁:=R++T)]
   rfl
 &⟨d,e,R,w,h1,h2,rfl⟩:=qH rfl fin
 !⟨x,R,w,hn,hx,h1,h2,e⟩
end LL
end
section
namespace K32
open PySem L3 L4
def rV:eT:=bK 4 1
  (aH (HV (aZ (aG LL.i0 (aA (aB 0) aE))) (HK 1 2))
  (aH (aN 3 (aG LL.fW (aA (aB 1) (aA (bF bW (aA (aB 2) aE)) aE))))
  (aU (kE (nP "bool" (aB 3)) (aB 3)))))
end K32
end
section
namespace K32
open PySem L3 L4 K24 LL
##TB (ns:List Int) (hns:ns.length<=63):rV [.jW ns]=.ok (.bl true):=by
 &⟨x,R,w,hn,hx,g,hl,e⟩:=N0 ns
 have sh:=S4 (w:=w) hn rfl g °
 ~rV
 @jP rfl (fF [.ro (.jW ns),.ro (aJ x),.ro (.lst ((R++[(x,w)]).map aO)),.no] (aDz (mY rfl e)) (fF [.ro (.jW ns),.ro (aJ x),.ro (.lst ((R++[(x,w)]).map aO)),.ro (.bl true)] (iE (.bl true) (eM rfl (dJ (x:=.lst ((R++[(x,w)]).map aO)) rfl rfl) sh) rfl) (kH (IT (p:=true) (isi (d:=.bl true) rfl) (fun _=>rfl) fun h=>by cases h))))
end K32
end
section
-- CHANGE: your row's module here,as the last of these rows
namespace L2
open PySem PySem.Spec PyProof.Rows
abbrev Key:=Sum Int Str
def BE:Key->Value->Bool
 | .inl k,v=>Value.isInt k v
 | .inr x,v=>Value.isStrOf x v
def aI9 (w:World):Key->Int
 | .inl k=>hashInt k
 | .inr x=>hashStr w x
##cR:∀ {k:Key} {v:Value},BE k v=true->(∃ i t,k=Sum.inl i/\v=Value.int i t)\/(∃ x t,k=Sum.inr x/\v=Value.str x t)
 | .inl i,v,h=>by
  &⟨t,e⟩:=Value.isInt_shape (k:=i) (v:=v) h
  !.inl ⟨i,t,rfl,e⟩
 | .inr x,v,h=>by
  &⟨t,e⟩:=Value.isStrOf_shape (x:=x) (v:=v) h
  !.inr ⟨x,t,rfl,e⟩
##N2 (i:Int) (t:Tok):BE (.inl i) (.int i t)=true:=by simp [BE,Value.isInt]
##N3 (x:Str) (t:Tok):BE (.inr x) (.str x t)=true:=by simp [BE,Value.isStrOf]
##aB8 (a b:Int):decide ((Sum.inl a:Key)=Sum.inl b)=(a == b):=by
 by_cases e:a=b
 ·subst e; simp
 ·have h:¬ (Sum.inl a:Key)=Sum.inl b:=fun q=>e (Sum.inl.inj q)
  rw [decide_eq_false h]
  !(beq_eq_false_iff_ne.mpr e).symm
##aB9 (a b:Str):decide ((Sum.inr a:Key)=Sum.inr b)=decide (a=b):=by
 by_cases e:a=b
 ·subst e; simp
 ·have h:¬ (Sum.inr a:Key)=Sum.inr b:=fun q=>e (Sum.inr.inj q)
  rw [decide_eq_false h,decide_eq_false e]
##aBa (a:Int) (b:Str):decide ((Sum.inl a:Key)=Sum.inr b)=false:=decide_eq_false (fun q=>nomatch q)
##aBb (a:Str) (b:Int):decide ((Sum.inr a:Key)=Sum.inl b)=false:=decide_eq_false (fun q=>nomatch q)
def bB (prog:Program) (w:World):PySem.KeyKind prog w Key where
 is:=BE
 hash:=aI9 w
 inj:=fun v a b ha hb=>by
  rcases cR ha with ⟨i,t,rfl,rfl⟩ | ⟨x,t,rfl,rfl⟩
  ·rcases cR hb with ⟨j,u,rfl,e⟩ | ⟨y,u,rfl,e⟩
   ·injection e with e1 _; rw [e1]
   ·!nomatch e
  ·rcases cR hb with ⟨j,u,rfl,e⟩ | ⟨y,u,rfl,e⟩
   ·!nomatch e
   ·injection e with e1 _; rw [e1]
 byValue:=fun k v h=>by
  rcases cR h with ⟨i,t,rfl,rfl⟩ | ⟨x,t,rfl,rfl⟩<;>rfl
 pyHash:=fun hv h=>by
  rcases cR hv with ⟨i,t,rfl,rfl⟩ | ⟨x,t,rfl,rfl⟩
  ·!wpAny_pyHash_int h
  ·!wpAny_pyHash_str h
 eqBool:=fun hu hv h=>by
  rcases cR hu with ⟨i,t,rfl,rfl⟩ | ⟨x,t,rfl,rfl⟩
  ·rcases cR hv with ⟨j,u,rfl,rfl⟩ | ⟨y,u,rfl,rfl⟩
   ·rw [aB8] at h; !wpAny_eqBool_int h
   ·rw [aBa] at h; !SeqAt.EqAt.int_str i t y u _ _ _ _ h
  ·rcases cR hv with ⟨j,u,rfl,rfl⟩ | ⟨y,u,rfl,rfl⟩
   ·rw [aBb] at h; !SeqAt.EqAt.str_int x t j u _ _ _ _ h
   ·rw [aB9] at h; !wpAny_eqBool_str h
 «strs»:=fun k x t v h=>by
  rcases cR h with ⟨i,u,rfl,e⟩ | ⟨y,u,rfl,e⟩
  ·!nomatch e
  ·injection e with e1 _
   subst e1
   cases v<;>rfl
##FO (prog:Program) (w:World) (i:Int) (t:Tok):(bB prog w).is (.inl i) (.int i t)=true:=N2 i t
##FP (prog:Program) (w:World) (x:Str) (t:Tok):(bB prog w).is (.inr x) (.str x t)=true:=N3 x t
end L2
namespace L2
open PySem PySem.Spec PyProof.Rows
abbrev N1:=List (Sum Key (List Key))
abbrev KX:=Sum Key N1
section
variable {prog:Program} {w:World} {K:Type} [dK:DecidableEq K] (knd:KeyKind prog w K)
def qN (h:Heap):Sum K (List K)->Value->Prop
 | .inl k,v=>knd.is k v=true
 | .inr ks,v=>∃ b,v=.ref b/\IsTupleKey knd h ks b
inductive iF (h:Heap):List (Sum K (List K))->List Value->Prop
 | nil:iF h [] []
 | cons {k:Sum K (List K)} {v:Value} {ks:List (Sum K (List K))} {vs:List Value}:qN knd h k v->iF h ks vs->iF h (k::ks) (v::vs)
def i5 (h:Heap) (ks:List (Sum K (List K))) (a:Addr):Prop:=∃ o items n,h.get? a=some o/\o.cls=.type "tuple" /\ o.data=.seq items n/\iF knd h ks items.toList
variable {knd}
##qN.inj {h:Heap} {v:Value}:∀ {x y:Sum K (List K)},qN knd h x v->qN knd h y v->x=y
 | .inl a,.inl b,hx,hy=>by rw [knd.inj _ _ _ hx hy]
 | .inl a,.inr b,hx,⟨q,e,_⟩=>by subst e; !absurd (knd.byValue _ _ hx) (by simp [carriedByValue])
 | .inr a,.inl b,⟨q,e,_⟩,hy=>by subst e; !absurd (knd.byValue _ _ hy) (by simp [carriedByValue])
 | .inr a,.inr b,⟨q,e,hx⟩,⟨r,f,hy⟩=>by
  subst e
  injection f with f
  subst f
  rw [hx.inj hy]
##iF.inj {h:Heap} {x:List (Sum K (List K))} {vs:List Value} (hx:iF knd h x vs):∀ {y},iF knd h y vs->x=y:=by
 induction hx with
 | nil=>intro y hy; cases hy; rfl
 | cons h1 _ ih =>
  intro y hy
  cases hy with
  | cons h2 t2=>rw [h1.inj h2,ih t2]
##i5.typeIs {s:Shared} {ks:List (Sum K (List K))} {a:Addr} (x:i5 knd s.heap ks a):s.TypeIs (.ref a) "tuple" := let ⟨o,_,_,ho,hc,_⟩:=x; ⟨o,ho,hc⟩
##i5.inj {h:Heap} {a:Addr} {x y:List (Sum K (List K))} (hx:i5 knd h x a) (hy:i5 knd h y a):x=y:=by
 &⟨o,its,n,ho,_,hd,hi⟩:=hx
 &⟨o',its',n',ho',_,hd',hi'⟩:=hy
 rw [ho] at ho'
 cases ho'
 rw [hd] at hd'
 cases hd'
 !hi.inj hi'
##i5.keeps {h h':Heap} {ks:List (Sum K (List K))} {a d:Addr} {o:Obj} {es ep} (x:i5 knd h ks a) (ho:h.get? d=some o) (hd:o.data=.dict es ep) (hs:Heap.SameBut d h h'):i5 knd h' ks a:=by
 &⟨q,items,n,hq,hc,hi,his⟩:=x
 have ne:a≠d:=fun z=>by
  subst z
  rw [hq] at ho
  cases ho
  rw [hi] at hd
  cases hd
 @⟨q,items,n,(hs.2 a ne).trans hq,hc,hi,?_⟩
 have go:∀ {ks:List (Sum K (List K))} {vs:List Value},iF knd h ks vs->iF knd h' ks vs:=by
  intro ks vs t
  induction t with
  | nil=>!.nil
  | @cons k v ks vs h1 _ ih =>
   @.cons ?_ ih
   cases k with
   | inl k=>!h1
   | inr k=>&⟨b,e,hb⟩:=h1; !⟨b,e,hb.keeps ho hd hs⟩
 !go his
def sA (knd:KeyKind prog w K):Sum K (List K)->Int
 | .inl k=>knd.hash k
 | .inr ks=>tupleKeyHash knd ks
def mH:Sum K (List K)->Nat
 | .inl _=>1
 | .inr ks=>ks.length+1
def xH (knd:KeyKind prog w K) (ks:List (Sum K (List K))):Int:=reduceHash (Builtin.Tuple.tupleHashOf (ks.map (sA knd)))
def pF (ks:List (Sum K (List K))):Nat:=(ks.map mH).sum+1
variable {s:Shared} {A:Around} {E:Value->Shared->Prop}
##N4 {k:Sum K (List K)} {v:Value} {Q:Int->Shared->Prop} (hu:A.units<cLine) (hk:qN knd s.heap k v) (h:Q (sA knd k) { s with toks:=s.toks+mH k }):wpAny (model prog w) A (pyHash v) Q E s:=by
 cases k with
 | inl k=>!knd.pyHash hk h
 | inr k =>
  &⟨b,e,hb⟩:=hk
  subst e
  !wpAny_pyHash_tuple hu hb h
##xI {ks:List K} {b:Addr} {h:Heap} (x:IsTupleKey knd h ks b):∃ items,h.IsTuple b items:=by
 &⟨o,items,n,ho,hc,hd,_⟩:=x
 !⟨items,o,ho,hc,n,hd⟩
end
section
variable {P:Program} {w:World} {A:Around} {E:Value->Shared->Prop} {s:Shared}
##YJ {x y:Sum Key (List Key)} {u v:Value} {Q:Bool->Shared->Prop} (hu:A.units<cLine) (hx:qN (bB P w) s.heap x u) (hy:qN (bB P w) s.heap y v) (h:Q (decide (x=y)) s):wpAny (model P w) A (eqBool u v) Q E s:=by
 cases x with
 | inl x =>
  cases y with
  | inl y =>
   @(bB P w).eqBool hx hy ?_
   rw [show decide (x=y)=decide ((Sum.inl x:Sum Key (List Key))=Sum.inl y) by simp]
   !h
  | inr y =>
   &⟨b,e,hb⟩:=hy
   subst e
   &⟨its,hb⟩:=xI hb
   rw [show decide ((Sum.inl x:Sum Key (List Key))=Sum.inr y)=false by simp] at h
   rcases cR hx with ⟨i,t,rfl,rfl⟩ | ⟨i,t,rfl,rfl⟩
   ·!SeqAt.EqAt.int_tuple i t hb hu P w E Q h
   ·!SeqAt.EqAt.str_tuple i t hb hu P w E Q h
 | inr x =>
  &⟨a,e,ha⟩:=hx
  subst e
  cases y with
  | inl y =>
   &⟨its,ha⟩:=xI ha
   rw [show decide ((Sum.inr x:Sum Key (List Key))=Sum.inl y)=false by simp] at h
   rcases cR hy with ⟨i,t,rfl,rfl⟩ | ⟨i,t,rfl,rfl⟩
   ·!SeqAt.EqAt.tuple_int i t ha hu P w E Q h
   ·!SeqAt.EqAt.tuple_str i t ha hu P w E Q h
  | inr y =>
   &⟨b,e,hb⟩:=hy
   subst e
   @wpAny_eqBool_tuple hu ha hb ?_
   rw [show decide (x=y)=decide ((Sum.inr x:Sum Key (List Key))=Sum.inr y) by simp]
   !h
##BF:∀ (rest:List Value) (left:List (Sum Key (List Key))) (b:Array Int) (s:Shared) (R:Array Int->Shared->Prop),A.units<cLine->iF (bB P w) s.heap left rest ->
  (∀ b':Array Int,b'.toList=b.toList++left.map (sA (bB P w))->R b' { s with toks:=s.toks+(left.map mH).sum }) ->
  wpAny (model P w) A (forIn rest b fun x r=>do
   let r' <- pyHash x
   pure (ForInStep.yield (r.push r'))) R E s
 | [],left,b,s,R,hu,t,k=>by
  cases t
  !wpAny_pure (k b (by simp))
 | v::rest,left,b,s,R,hu,t,k=>by
  cases t with
  | @cons kk _ ks _ h1 h2 =>
   rw [List.forIn_cons]
   @wpAny_bind (wpAny_bind (N4 hu h1 (wpAny_pure ?_)))
   @BF rest ks _ _ _ hu h2 fun b' e=>?_
   have:=k b' (by rw [e]; simp)
   simpa [Nat.add_assoc] using this
##N5 {ks:List (Sum Key (List Key))} {a:Addr} {Q:Int->Shared->Prop} (hu:A.units+1<cLine) (hk:i5 (bB P w) s.heap ks a) (h:Q (xH (bB P w) ks) { s with toks:=s.toks+pF ks }):wpAny (model P w) A (pyHash (.ref a)) Q E s:=by
 have hT:=hk.typeIs
 &⟨o,its,n,ho,_,hd,hi⟩:=hk
 have sl:=F.slot_tuple_hash
 ~pyHash pyHashByItsType
 wp_walk using wpAny_cRoomFor_or (.inr °),wpAny_specialOf hT sl.lookup,(wpAny_callSpecialIfBoundUnlessNone?_slot hT sl (wpAny_call_entry sl hT F.entry_tuple_hash ?_ (F.args_tuple_hash_1 _)))
 rw [hd]
 @wpAny_pure (wpAny_pure (wpAny_bind ?_))
 rw [<- Array.forIn_toList]
 @BF its.toList ks #[] s _ hu hi fun b eb=>?_
 dsimp only
 rw [eb,List.nil_append]
 ~xH reduceHash at h
 @wpAny_ret_mkInt ?_
 have e2:s.toks+(ks.map mH).sum+1=s.toks+pF ks:=by ~pF; omega
 show wpAny (model P w) A (pyHashByItsType.reduced _) Q E { s with toks:=s.toks+(ks.map mH).sum+1 }
 rw [e2]
 ~pyHashByItsType.reduced
 generalize Builtin.Tuple.tupleHashOf (ks.map (sA (bB P w)))=z at h ⊢
 by_cases hz:(decide (-(2 ^ 63:Int)<=z)&&decide (z<2 ^ 63))=true
 ·rw [if_pos hz] at h ⊢
  !wpAny_pure h
 ·rw [if_neg hz] at h ⊢
  @wpAny_bind (wpAny_rule ?_); !wpAny_pure h
##eq_loop:∀ (x y:List (Sum Key (List Key))) (xs ys:List Value) (R:Option Fin×Unit->Shared->Prop),A.units<cLine->iF (bB P w) s.heap x xs->iF (bB P w) s.heap y ys ->
  (x≠y->R (some (.done (.ret (.bool false))),()) s)->((x=y↔xs.length=ys.length)->R (none,()) s) ->
  wpAny (model P w) A (forIn (xs.zip ys) ((none,()):Option Fin×Unit) fun p _=>do
   let c <- eqBool p.1 p.2
   if (!c)=true then do
    let q <- ret (Value.bool false)
    pure (ForInStep.done (some q,()))
   else pure (ForInStep.yield (none,()))) R E s
 | [],y,xs,ys,R,hu,hx,hy,k1,k2=>by
  cases hx
  @wpAny_pure (k2 ?_)
  cases hy<;>simp
 | kx::x,[],xs,ys,R,hu,hx,hy,k1,k2=>by
  cases hx
  cases hy
  !wpAny_pure (k2 (by simp))
 | kx::x,ky::y,xs,ys,R,hu,hx,hy,k1,k2=>by
  cases hx with
  | @cons _ u _ xs hx1 hx2 =>
   cases hy with
   | @cons _ v _ ys hy1 hy2 =>
    rw [List.zip_cons_cons,List.forIn_cons]
    @wpAny_bind (wpAny_bind (YJ hu hx1 hy1 ?_))
    by_cases hk:kx=ky
    ·subst hk
     rw [decide_eq_true rfl,if_neg §]
     @wpAny_pure (eq_loop x y xs ys R hu hx2 hy2 (fun n=>k1 (¥n)) fun e=>k2 ?_)
     simpa using e
    ·rw [decide_eq_false hk,if_pos §]
     !wpAny_bind (wpAny_pure (wpAny_pure (wpAny_pure (k1 (by simp [hk])))))
##YK {x y:List (Sum Key (List Key))} {a b:Addr} {Q:Bool->Shared->Prop} (hu:A.units+1<cLine) (hx:i5 (bB P w) s.heap x a) (hy:i5 (bB P w) s.heap y b) (h:Q (decide (x=y)) s):wpAny (model P w) A (eqBool (.ref a) (.ref b)) Q E s:=by
 have tx:=hx.typeIs
 have ty:=hy.typeIs
 have sl:=F.slot_tuple_eq
 by_cases hab:a=b
 ·subst hab
  rw [hx.inj hy,decide_eq_true rfl] at h
  !SeqAt.EqAt.same _ P w E Q h
 ·&⟨oa,xs,na,hoa,_,hda,hia⟩:=hx
  &⟨oc,ys,nb,hob,_,hdb,hib⟩:=hy
  ~eqBool
  rw [if_neg (¥hab)]
  have hu0:A.units<cLine:=by omega
  apply wpAny_holding; apply wpAny_bind
  @(wpAny_richCompare_same_room (op:=.Eq) tx ty sl (wpAny_call_entry sl tx F.entry_tuple_eq ?_ (F.args_tuple_eq_2 _ _)) hu0)
  ~Builtin.«tuple.__eq__»
  wp_walk using wpAny_isInstance ty isSubtype_tuple_tuple,wpAny_tupleItemsOf hoa hda,wpAny_tupleItemsOf hob hdb
  @eq_loop x y xs.toList ys.toList _ hu hia hib (fun n=>?_) fun e=>?_
  ·rw [decide_eq_false n] at h
   !wpAny_pure ⟨_,rfl,(fun z=>nomatch z),wpAny_truthy_bool h⟩
  ·@wpAny_pure ⟨_,rfl,(fun z=>nomatch z),?_⟩
   have e2:(xs.size == ys.size)=decide (x=y):=by
    by_cases q:x=y
    ·rw [decide_eq_true q]; simpa using e.1 q
    ·rw [decide_eq_false q]; simpa using fun z=>q (e.2 z)
   show wpAny (model P w) A (truthOfDropped (.bool (xs.size == ys.size))) Q E s
   rw [e2]
   !wpAny_truthy_bool h
##xJ {d:Nat}:∀ (vs:List Value) (R:Option Bool×Unit->Shared->Prop),(∀ v∈vs,∀ Q:Bool->Shared->Prop,Q true s->wpAny (model P w) A (eqIsQuiet d v) Q E s)->R (none,()) s ->
  wpAny (model P w) A (forIn vs ((none,()):Option Bool×Unit) fun y _=>do
   let c <- eqIsQuiet d y
   if (!c)=true then pure (ForInStep.done (some false,()))
   else pure (ForInStep.yield (none,()))) R E s
 | [],R,hq,k=>wpAny_pure k
 | v::vs,R,hq,k=>by
  rw [List.forIn_cons]
  @wpAny_bind (wpAny_bind (hq v List.mem_cons_self _ ?_))
  rw [if_neg §]
  !wpAny_pure (xJ vs R (fun u hu=>hq u (List.mem_cons_of_mem _ hu)) k)
##BG {d:Nat} {a:Addr} {o:Obj} {xs:Array Value} {n:Nat} {Q:Bool->Shared->Prop} (tx:s.TypeIs (Value.ref a) "tuple") (ho:s.heap.get? a=some o) (hd:o.data=.seq xs n) (hq:∀ v∈xs.toList,∀ Q:Bool->Shared->Prop,Q true s->wpAny (model P w) A (eqIsQuiet d v) Q E s) (h:Q true s) :
  wpAny (model P w) A (eqIsQuiet (d+1) (.ref a)) Q E s:=by
 have sl:=F.slot_tuple_eq
 ~eqIsQuiet
 @wpAny_bind (wpAny_specialOf tx sl.lookup ?_)
 show wpAny (model P w) A (isInstance (.ref a) (.type "tuple") >>= _) _ _ s
 @wpAny_bind (wpAny_isInstance tx isSubtype_tuple_tuple ?_)
 rw [if_neg §]
 dsimp only
 @wpAny_bind (wpAny_seqItems ho hd (wpAny_bind ?_))
 show wpAny _ _ (forIn xs _ _) _ _ s
 rw [<- Array.forIn_toList]
 !xJ xs.toList _ hq (wpAny_pure h)
##IU {x:List (Sum Key (List Key))} {a:Addr} {Q:Bool->Shared->Prop} (hx:i5 (bB P w) s.heap x a) (h:Q true s):wpAny (model P w) A (eqIsQuiet 8 (.ref a)) Q E s:=by
 have tx:=hx.typeIs
 &⟨o,xs,n,ho,_,hd,hi⟩:=hx
 @BG (d:=7) tx ho hd ?_ h
 have go:∀ {ks:List (Sum Key (List Key))} {vs:List Value},iF (bB P w) s.heap ks vs -> ∀ v∈vs,∀ Q:Bool->Shared->Prop,Q true s->wpAny (model P w) A (eqIsQuiet 7 v) Q E s:=by
  intro ks vs t
  induction t with
  | nil=>intro v hv; cases hv
  | @cons k v ks vs h1 _ ih =>
   intro u hu Q k0
   rcases List.mem_cons.1 hu with e | hu
   ·subst e
    cases k with
    | inl k =>
     rw [eqIsQuiet_byValue _ ((bB P w).byValue _ _ h1)]
     !wpAny_pure k0
    | inr k =>
     &⟨b,e,hb⟩:=h1
     subst e
     have tb:=hb.typeIs
     &⟨o',xs',n',ho',_,hd',hi'⟩:=hb
     @BG (d:=6) tb ho' hd' (fun v' hv' Q' k'=>?_) k0
     rw [eqIsQuiet_byValue _ (hi'.byValue v' hv')]
     !wpAny_pure k'
   ·!ih u hu Q k0
 !go hi
def iG (P:Program) (w:World):HeapKind P w (List (Sum Key (List Key))) where
 is:=i5 (bB P w)
 hash:=xH (bB P w)
 draws:=pF
 room:=fun A=>A.units+1<cLine
 inj:=fun hx hy=>hx.inj hy
 keeps:=fun x ho he hs=>x.keeps ho he hs
 pyHash:=fun hu hk h=>N5 hu hk h
 eqBool:=fun hu hx hy h=>YK hu hx hy h
 quiet:=fun hk h=>IU hk h
##nest_room (hu:A.units+2<cLine):(iG P w).room A.in1:=hu
end
end L2
namespace L2
open PySem PySem.Spec PyProof.Rows
inductive V where
 | non | bl (b:Bool) | int (i:Int) | str (x:Str) | N6 (b:Array UInt8) | flt (b:UInt64) | ref (a:Addr) | ty (n:String)
 deriving DecidableEq
def RelV:V->Value->Prop
 | .non,u=>u=Value.none
 | .bl b,u=>u=Value.bool b
 | .int i,u=>∃ t,u=Value.int i t
 | .str x,u=>∃ t,u=Value.str x t
 | .N6 b,u=>∃ t,u=Value.bytes b t
 | .flt b,u=>∃ t,u=Value.float b t
 | .ref a,u=>u=Value.ref a
 | .ty n,u=>u=Value.type n
abbrev Vals:List V->List Value->Prop:=Paired RelV
##Vals.length {xs:List V} {us:List Value} (r:Vals xs us):xs.length=us.length:=Paired.length r
##Vals.get:∀ {xs:List V} {us:List Value} {i:Nat} {x:V},Vals xs us->xs[i]? = some x -> ∃ u,us[i]? = some u/\RelV x u
 | _,_,_,_,.nil,e=>by simp at e
 | _,_,0,_,.cons r _,e=>by simp at e; subst e; !⟨_,rfl,r⟩
 | _,_,i+1,x,.cons _ t,e=>by
  &⟨u,h1,h2⟩:=Vals.get (i:=i) (x:=x) t (¥e)
  !⟨u,¥h1,h2⟩
##Vals.append:∀ {xs ys:List V} {us ws:List Value},Vals xs us->Vals ys ws->Vals (xs++ys) (us++ws)
 | _,_,_,_,.nil,s=>s
 | _,_,_,_,.cons r t,s=>.cons r (Vals.append t s)
##Vals.take:∀ {xs:List V} {us:List Value} (n:Nat),Vals xs us->Vals (xs.take n) (us.take n)
 | _,_,0,_=>.nil
 | _,_,_+1,.nil=>.nil
 | _,_,n+1,.cons r t=>.cons r (Vals.take n t)
##Vals.drop:∀ {xs:List V} {us:List Value} (n:Nat),Vals xs us->Vals (xs.drop n) (us.drop n)
 | _,_,0,r=>r
 | _,_,_+1,.nil=>.nil
 | _,_,n+1,.cons _ t=>Vals.drop n t
def oD:Option V->Option Value->Prop
 | some v,some u=>RelV v u
 | none,none=>True
 | _,_=>False
def KV {κ:Type}:List (κ×V)->List (κ×Value)->Prop:=Paired fun (p:κ×V) (q:κ×Value)=>p.1=q.1/\RelV p.2 q.2
def kV:Key->V
 | .inl i=>.int i
 | .inr x=>.str x
inductive HO where
 | lst (xs:List V)
 | tup (xs:List V)
 | dK (kvs:List (Key×V)) | dT (kvs:List (List Key×V))
 | dX (o:Obj) (kvs:List (KX×V×V))
 | set (S:Int->Bool) (n:Nat)
 | ins (C dx:Addr) (fs:List (Str×V))
 | own (x:Addr)
 | xd (fs:List (Str×V))
 | met (f x:Addr)
 | rng (lo hi:Int)
 | HL (o:Obj) (u:HO)
 | tbl (ps:Array Value)
 | ext (φ:Heap->Prop)
abbrev Hp:=Addr->Option HO
def upd (H:Hp) (a:Addr) (o:HO):Hp:=fun b=>if b=a then some o else H b
##bD {H:Hp} {a:Addr} {o:HO}:upd H a o a=some o:=by ~upd; rw [if_pos rfl]
##bQ {H:Hp} {a b:Addr} {o:HO} (h:b≠a):upd H a o b=H b:=by ~upd; rw [if_neg h]
##aA2 {H:Hp} {a b:Addr} {o u:HO} (h:H a=some o) (h':H b=some u) (d:o≠u):a≠b:=by
 intro e; subst e; rw [h] at h'; !d (Option.some.inj h')
##bU {H:Hp} {a b:Addr} {o:HO} (h:H a=some o) (h':H b=none):a≠b:=by
 intro e; subst e; rw [h] at h'; cases h'
def xK (H:Hp):Sum Key (List Key)->V->Prop
 | .inl k,v=>v=kV k
 | .inr ks,v=>∃ b,v=.ref b/\H b=some (.tup (ks.map kV))
def oF (H:Hp) (ks:N1) (a:Addr):Prop:=∃ vs,H a=some (.tup vs)/\Paired (xK H) ks vs
def zS (P:Program) (w:World) (H:Hp) (o:Obj) (kvs:List (KX×V×V)):Prop:=o.ExactDict /\ ∃ es ep,o.data=.dict es ep /\
 ((∃ vs:List (Key×Value),Paired (fun (p:KX×V×V) (q:Key×Value)=>p.1=.inl q.1/\p.2.1=kV q.1/\RelV p.2.2 q.2) kvs vs/\KeysOf (bB P w) es/\Pairs (bB P w) es.toList vs/\(vs.map (·.1)).Nodup) \/
  ∃ xs:List (N1×Addr×Value),Paired (fun (p:KX×V×V) (q:N1×Addr×Value)=>p.1=.inr q.1/\p.2.1=.ref q.2.1/\oF H q.1 q.2.1/\RelV p.2.2 q.2.2) kvs xs/\es.toList=xs.map (entryOfKey (iG P w))/\(xs.map (·.1)).Nodup)
##Paired.aBd {α β:Type} {F G:α->β->Prop}:∀ {l₁:List α} {l₂:List β},Paired F l₁ l₂->(∀ a b,F a b->G a b)->Paired G l₁ l₂
 | _,_,.nil,_=>.nil
 | _,_,.cons r t,f=>.cons (f _ _ r) (Paired.aBd t f)
##oF.stay {H H':Hp} {ks:N1} {a:Addr} (h:oF H ks a) (ht:∀ b xs,H b=some (.tup xs)->H' b=some (.tup xs)):oF H' ks a:=by
 &⟨vs,e,r⟩:=h
 @⟨vs,ht _ _ e,Paired.aBd r fun k v q=>?_⟩
 cases k with
 | inl k=>!q
 | inr k=>&⟨b,e,q⟩:=q; !⟨b,e,ht _ _ q⟩
##zS.stay {P:Program} {w:World} {H H':Hp} {o:Obj} {kvs:List (KX×V×V)} (h:zS P w H o kvs) (ht:∀ b xs,H b=some (.tup xs)->H' b=some (.tup xs)):zS P w H' o kvs:=by
 &⟨x,es,ep,e,h⟩:=h
 @⟨x,es,ep,e,?_⟩
 rcases h with h | ⟨xs,r,h1,h2⟩
 ·!.inl h
 ·!.inr ⟨xs,Paired.aBd r fun p q z=>⟨z.1,z.2.1,z.2.2.1.stay ht,z.2.2.2⟩,h1,h2⟩
section
variable (P:Program) (w:World)
def eA (H:Hp) (h:Heap) (a:Addr):HO->Prop
 | .lst xs=>xs.length<=sizeLine /\ ∃ (its:List Value) (n:Nat),Vals xs its/\h.get? a=some { cls:=.type "list",data:=.seq its.toArray n }
 | .tup xs=>xs.length<=sizeLine /\ ∃ its:List Value,Vals xs its/\IsTup h a its.toArray
 | .dK kvs=>kvs.length<=sizeLine/\(a == sysModules)=false /\ ∃ vs,KV kvs vs/\h.DictOf (bB P w) a vs
 | .dT kvs=>kvs.length<=sizeLine/\(a == sysModules)=false /\ ∃ xs:List (List Key×Addr×Value),
   Paired (fun (p:List Key×V) (q:List Key×Addr×Value)=>p.1=q.1/\H q.2.1=some (.tup (p.1.map kV))/\RelV p.2 q.2.2) kvs xs /\
   ∃ o es ep,h.get? a=some o/\o.ExactDict/\o.data=.dict es ep/\es.toList=xs.map (entryOfKey (tupleKind (bB P w)))/\(xs.map (·.1)).Nodup
 | .dX o kvs=>kvs.length<=sizeLine/\(a == sysModules)=false/\h.get? a=some o/\zS P w H o kvs
 | .set S n=>h.SetOf (intKind P w) a S n
 | .ins C dx fs=>H dx=some (.own a)/\fs.length<=1000/\dx≠a/\h.get? a=some (PySem.W.instObj C dx) /\
   ∃ mA,h.Ns1 dx mA/\(∀ f,oD (fs.lookup f) (mA f))/\PySem.Within mA (fs.map (·.1))
 | .own _=>∃ o,h.get? a=some o
 | .xd fs=>∃ mA,h.Ns1 a mA /\ ∀ f,oD (fs.lookup f) (mA f)
 | .rng lo hi=>∃ t u v,h.get? a=some { cls:=.type "range",data:=.fields #[.int lo t,.int hi u,.int 1 v] }
 | .HL o u=>h.get? a=some o/\eA H h a u
 | .tbl ps=>h.get? a=some { cls:=.none,data:=.fields ps }
 | .met f x=>h.get? a=some (PySem.W.methodObj (.ref f) (.ref x))
 | .ext φ=>φ h/\(∃ o,h.get? a=some o) /\ ∀ h1 h2:Heap,φ h1->(∀ o,h1.get? a=some o->h2.get? a=some o)->φ h2
def pU (H:Hp) (h:Heap):Prop:=∀ a o,H a=some o->eA P w H h a o
end
section
variable {P:Program} {w:World} {H H':Hp} {h h':Heap} {a:Addr} {o:HO}
##eA.lt (x:eA P w H h a o):a<h.objs.size:=by
 cases o with
 | lst xs=>&⟨_,_,_,_,e⟩:=x; !Heap.lt_size e
 | tup xs=>&⟨_,_,_,p⟩:=x; !p.lt
 | dK kvs=>&⟨_,_,_,_,o,_,_,e,_⟩:=x; !Heap.lt_size e
 | dT kvs=>&⟨_,_,_,_,o,_,_,e,_⟩:=x; !Heap.lt_size e
 | dX ob kvs=>&⟨_,_,e,_⟩:=x; !Heap.lt_size e
 | set S n=>&⟨o,_,_,_,e,_⟩:=x; !Heap.lt_size e
 | ins C dx fs=>&⟨_,_,_,e,_⟩:=x; !Heap.lt_size e
 | own y=>&⟨_,e⟩:=x; !Heap.lt_size e
 | xd fs=>&⟨_,⟨_,_,_,e,_⟩,_⟩:=x; !Heap.lt_size e
 | rng lo hi=>&⟨_,_,_,e⟩:=x; !Heap.lt_size e
 | HL ob u=>&⟨e,_⟩:=x; !Heap.lt_size e
 | tbl ps=>!Heap.lt_size (show h.get? a=some _ from x)
 | met f y=>!Heap.lt_size (show h.get? a=some _ from x)
 | ext φ=>&⟨_,⟨_,e⟩,_⟩:=x; !Heap.lt_size e
##Paired.aBe {α β:Type} {F G:α->β->Prop}:∀ {l₁:List α} {l₂:List β},Paired F l₁ l₂->(∀ a b,F a b->G a b)->Paired G l₁ l₂
 | _,_,.nil,_=>.nil
 | _,_,.cons r t,f=>.cons (f _ _ r) (Paired.aBe t f)
##eA.stay (x:eA P w H h a o) (k:∀ b u,(b=a\/H b=some (.own a))->h.get? b=some u->h'.get? b=some u)
  (ho:∀ b,H b=some (.own a)->H' b=some (.own a)) (ht:∀ b xs,H b=some (.tup xs)->H' b=some (.tup xs)):eA P w H' h' a o:=by
 induction o with
 | lst xs=>&⟨z,its,n,r,e⟩:=x; !⟨z,its,n,r,k _ _ (.inl rfl) e⟩
 | tup xs=>&⟨z,its,r,ob,e,c⟩:=x; !⟨z,its,r,ob,k _ _ (.inl rfl) e,c⟩
 | dK kvs=>&⟨z,y,vs,r,ob,es,ep,e,c⟩:=x; !⟨z,y,vs,r,ob,es,ep,k _ _ (.inl rfl) e,c⟩
 | dT kvs =>
  &⟨z,y,xs,r,ob,es,ep,e,c⟩:=x
  !⟨z,y,xs,Paired.aBe r fun p q z=>⟨z.1,ht _ _ z.2.1,z.2.2⟩,ob,es,ep,k _ _ (.inl rfl) e,c⟩
 | dX ob kvs=>&⟨z,y,e,c⟩:=x; !⟨z,y,k _ _ (.inl rfl) e,c.stay ht⟩
 | set S n=>&⟨ob,es,ep,t,e,c⟩:=x; !⟨ob,es,ep,t,k _ _ (.inl rfl) e,c⟩
 | ins C dx fs =>
  &⟨d,z,ne,e,mA,⟨od,es,ep,e2,c⟩,r⟩:=x
  !⟨ho _ d,z,ne,k _ _ (.inl rfl) e,mA,⟨od,es,ep,k _ _ (.inr d) e2,c⟩,r⟩
 | own y=>&⟨ob,e⟩:=x; !⟨ob,k _ _ (.inl rfl) e⟩
 | xd fs=>&⟨mA,⟨od,es,ep,e,c⟩,r⟩:=x; !⟨mA,⟨od,es,ep,k _ _ (.inl rfl) e,c⟩,r⟩
 | rng lo hi=>&⟨t,u,v,e⟩:=x; !⟨t,u,v,k _ _ (.inl rfl) e⟩
 | HL ob u ih=>&⟨e,q⟩:=x; !⟨k _ _ (.inl rfl) e,ih q⟩
 | tbl ps =>
  have e:h.get? a=some { cls:=.none,data:=.fields ps }:=x
  show h'.get? a=some { cls:=.none,data:=.fields ps }
  !k a _ (.inl rfl) e
 | met f y =>
  have e:h.get? a=some (PySem.W.methodObj (.ref f) (.ref y)):=x
  show h'.get? a=some (PySem.W.methodObj (.ref f) (.ref y))
  !k a _ (.inl rfl) e
 | ext φ=>&⟨p,⟨o,e⟩,st⟩:=x; !⟨st _ _ p fun o q=>k _ _ (.inl rfl) q,⟨o,k _ _ (.inl rfl) e⟩,st⟩
##pU.lt (x:pU P w H h) (e:H a=some o):a<h.objs.size:=(x a o e).lt
##pU.fresh (x:pU P w H h) (e:h.objs.size<=a):H a=none:=by
 cases q:H a with
 | none=>rfl
 | some u=>!absurd (Nat.lt_of_lt_of_le (x.lt q) e) (Nat.lt_irrefl _)
##pU.kept (x:pU P w H h) (k:∀ b u,h.get? b=some u->h'.get? b=some u):pU P w H h':=fun a o e =>
 (x a o e).stay (fun b u _ q=>k b u q) (fun _ q=>q) fun _ _ q=>q
##pU.laid (x:pU P w H h) (k:∀ b u,h.get? b=some u->h'.get? b=some u) (hp:h.objs.size<=a) (new:eA P w (upd H a o) h' a o):pU P w (upd H a o) h':=fun b u e=>by
 have hn:=x.fresh hp
 by_cases hb:b=a
 ·subst hb; rw [bD] at e; cases e; !new
 ·rw [bQ hb] at e
  !(x b u e).stay (fun c v _ q=>k c v q) (fun c q=>by rw [bQ (bU q hn)]; !q) fun c xs q=>by rw [bQ (bU q hn)]; !q
end
def Rd (H:Hp) (a:Addr) (u:HO):Prop:=H a=some u \/ ∃ o,H a=some (.HL o u)
##Rd.ok {P:Program} {w:World} {H:Hp} {h:Heap} {a:Addr} {u:HO} (r:Rd H a u) (x:pU P w H h):eA P w H h a u:=by
 rcases r with r | ⟨o,r⟩
 ·!x a u r
 ·&⟨_,q⟩:=x a _ r
  !q
def Mut:Option HO->Prop
 | some (.lst _)=>True
 | some (.dK _)=>True
 | some (.dT _)=>True
 | some (.dX _ _)=>True
 | some (.set _ _)=>True
 | some (.ins _ _ _)=>True
 | some (.ext _)=>True
 | _=>False
section
variable {P:Program} {w:World} {H:Hp} {h h':Heap} {x e:Addr} {o':HO}
##pU.write (ok:pU P w H h) (mu:Mut (H x)) (he:e=x\/H e=some (.own x)) (k:∀ b u,b≠e->h.get? b=some u->h'.get? b=some u) (heo:∃ u,h'.get? e=some u)
  (new:eA P w (upd H x o') h' x o'):pU P w (upd H x o') h':=fun b u q=>by
 have aEJ:∀ c y,H c=some (.own y)->c≠x:=fun c y r z=>by subst z; rw [r] at mu; !mu
 have aIa:∀ c xs,H c=some (.tup xs)->c≠x:=fun c xs r z=>by subst z; rw [r] at mu; !mu
 by_cases hb:b=x
 ·subst hb; rw [bD] at q; cases q; !new
 ·rw [bQ hb] at q
  by_cases hbe:b=e
  ·have q':H b=some (.own x):=by
    rcases he with z | z
    ·!absurd (hbe.trans z) hb
    ·rw [hbe]; !z
   rw [q] at q'; cases q'
   &⟨v,hv⟩:=heo
   !⟨v,by rw [hbe]; !hv⟩
  ·@(ok b u q).stay (fun c v hc r=>k c v ?_ r) (fun c r=>by rw [bQ (aEJ c b r)]; !r) fun c xs r=>by rw [bQ (aIa c xs r)]; !r
   rcases hc with rfl | hc
   ·!hbe
   ·rintro rfl
    rcases he with z | z
    ·!aEJ c b hc z
    ·rw [hc] at z; cases z; !hb rfl
end
structure Un (fs ex:List Addr) (H H':Hp) (h h':Heap):Prop where
 keep:∀ b o,h.get? b=some o->H b=none->b∉fs->b∉ex->h'.get? b=some o
 slot:∀ b o,h.get? b=some o->H b=none->b∈fs->b∉ex -> ∃ sl,h'.get? b=some { o with slots:=sl }
 free:∀ b o,h.get? b=some o->H b=none->b∉ex->H' b=none
 there:∀ b o,h.get? b=some o->b∉ex -> ∃ o',h'.get? b=some o'
 tups:∀ b xs,H b=some (.tup xs)->H' b=some (.tup xs)
 sB:∀ b o u,H b=some (.HL o u)->H' b=some (.HL o u)
 t4:∀ b ps,H b=some (.tbl ps) -> ∃ more,H' b=some (.tbl (ps++more))
section
variable {fs fs' ex ex':List Addr} {H H1 H2:Hp} {h h1 h2 h':Heap} {a x e:Addr} {o:HO}
##Un.any (u:Un fs ex H H1 h h1) {b:Addr} {ob:Obj} (q:h.get? b=some ob) (n:H b=none) (hx:b∉ex):∃ sl,h1.get? b=some { ob with slots:=sl }:=by
 by_cases hb:b∈fs
 ·!u.slot b ob q n hb hx
 ·!⟨ob.slots,u.keep b ob q n hb hx⟩
##Un.trans (a:Un fs ex H H1 h h1) (b:Un fs ex H1 H2 h1 h2):Un fs ex H H2 h h2 where
 keep:=fun c ob q n hc hx=>b.keep c ob (a.keep c ob q n hc hx) (a.free c ob q n hx) hc hx
 slot:=fun c ob q n hc hx=>by
  &⟨sl,e1⟩:=a.slot c ob q n hc hx
  &⟨sl',e2⟩:=b.slot c _ e1 (a.free c ob q n hx) hc hx
  !⟨sl',e2⟩
 free:=fun c ob q n hx=>by
  &⟨o',e1⟩:=a.there c ob q hx
  !b.free c o' e1 (a.free c ob q n hx) hx
 there:=fun c ob q hx=>by
  &⟨o',e1⟩:=a.there c ob q hx
  !b.there c o' e1 hx
 tups:=fun c xs q=>b.tups c xs (a.tups c xs q)
 sB:=fun c ob xs q=>b.sB c ob xs (a.sB c ob xs q)
 t4:=fun c ps q=>by
  &⟨m1,e1⟩:=a.t4 c ps q
  &⟨m2,e2⟩:=b.t4 c _ e1
  !⟨m1++m2,by rw [e2,Array.append_assoc]⟩
##Un.kept (k:∀ b u,h.get? b=some u->h'.get? b=some u):Un fs ex H H h h' :=
 ⟨fun b ob q _ _ _=>k b ob q,fun b ob q _ _ _=>⟨ob.slots,k b ob q⟩,fun _ _ _ n _=>n,fun b ob q _=>⟨ob,k b ob q⟩,fun _ _ q=>q,fun _ _ _ q=>q,fun _ ps q=>⟨#[],by rw [q]; simp⟩⟩
##Un.refl:Un fs ex H H h h:=Un.kept fun _ _ q=>q
##Un.laid (k:∀ b u,h.get? b=some u->h'.get? b=some u) (hp:h.objs.size<=a) (hn:H a=none):Un fs ex H (upd H a o) h h' where
 keep:=fun b u q _ _ _=>k b u q
 slot:=fun b u q _ _ _=>⟨u.slots,k b u q⟩
 free:=fun b u q n _=>by rw [bQ (Nat.ne_of_lt (Nat.lt_of_lt_of_le (Heap.lt_size q) hp))]; !n
 there:=fun b u q _=>⟨u,k b u q⟩
 tups:=fun b xs q=>by rw [bQ (bU q hn)]; !q
 sB:=fun b u xs q=>by rw [bQ (bU q hn)]; !q
 t4:=fun b ps q=>⟨#[],by rw [bQ (bU q hn),q]; simp⟩
##Un.write (mu:Mut (H x)) (he:e=x\/H e=some (.own x)) (k:∀ b u,b≠e->h.get? b=some u->h'.get? b=some u) (heo:∃ u,h'.get? e=some u):Un fs ex H (upd H x o) h h':=by
 have hx:∀ b,H b=none->b≠x:=fun b n z=>by subst z; rw [n] at mu; !mu
 have hb:∀ b,H b=none->b≠e:=fun b n z=>by
  subst z
  rcases he with r | r
  ·!hx b n r
  ·rw [n] at r; cases r
 have hm:∀ b u,H b=some u->¬ Mut (some u)->b≠x:=fun b u q nm z=>by subst z; rw [q] at mu; !nm mu
 @⟨fun b u q n _ _=>k b u (hb b n) q,fun b u q n _ _=>⟨u.slots,k b u (hb b n) q⟩,fun b u q n _=>by rw [bQ (hx b n)]; !n,fun b u q _=>?_,
  fun b xs q=>by rw [bQ (hm b _ q fun z=>z)]; !q,fun b u xs q=>by rw [bQ (hm b _ q fun z=>z)]; !q,fun b ps q=>⟨#[],by rw [bQ (hm b _ q fun z=>z),q]; simp⟩⟩
 by_cases hbe:b=e
 ·subst hbe; !heo
 ·!⟨u,k b u hbe q⟩
end
def trk (h:Heap) (H:Hp):List Addr:=(List.range h.objs.size).filter fun a=>(H a).isSome
def DI (h:Heap) (H:Hp):Heap:=PySem.W.hideAll h (trk h H)
##N7 (h:Heap) (H:Hp):(DI h H).objs.size=h.objs.size:=PySem.W.hideAll_size _ _
##TC {h:Heap} {H:Hp} {b:Addr} {o:Obj} (e:h.get? b=some o) (n:H b=none):(DI h H).get? b=some o :=
 PySem.W.hideAll_get _ e fun hm=>by
  have q:(H b).isSome=true:=(List.mem_filter.mp hm).2
  rw [n] at q; simp at q
##YL {h:Heap} {H:Hp} {b:Addr} {o:Obj} (e:(DI h H).get? b=some o):h.get? b=some o/\H b=none:=by
 have e':h.get? b=some o:=PySem.W.of_hideAll (trk h H) e
 @⟨e',?_⟩
 cases q:H b with
 | none=>rfl
 | some x =>
  have hm:b∈trk h H:=List.mem_filter.mpr ⟨List.mem_range.mpr (Heap.lt_size e'),by simp [q]⟩
  have z:(DI h H).get? b=none:=PySem.W.hideAll_none (trk h H) hm
  rw [z] at e; cases e
end L2
namespace L2
open PySem PySem.Spec PyProof.Rows
structure Mod (K:PySem.W.Frag) (mg:Str->Option Value) (base:Heap):Prop where
 kin:K.In base
 glob:base.Ns mainGlobals mg
 blt:∃ mb,base.Ns builtinsNs mb /\ ∀ x:Str,x ≠ "__name__" -> mb x=bootBuiltins x
 nolimit:base.NoLimit
structure Cx where
 prog:Program
 w:World
 K:PySem.W.Frag
 mg:Str->Option Value
 base:Heap
 A:Around
 N:List Str
 s₀:Shared
 H₀:Hp
 env:Env
 outer:List Env
 stack:List Env
 ex:List Addr
 fn:Str->Bool
 calm:Bool
 pn:List (Addr×Obj)
 xe:Value->Shared->Prop
def frs (l:List Env):List Addr:=l.filterMap (·.frame)
abbrev Cx.fs (X:Cx):List Addr:=frs X.outer
def EL (sc:Scope) (x:Str):Prop:=sc.names.lookup x=some .local\/sc.names.lookup x=some .cell\/sc.names.lookup x=some .free
def Loc (sc:Scope) (x:Str):Prop:=sc.names.lookup x=some .local\/sc.names.lookup x=some .cell
def Look (env:Env) (h:Heap) (m:Str->Option Value) (x:Str) (u:Value):Prop :=
 (env.kindOf x=some .local/\m x=some u)\/((env.kindOf x=some .cell\/env.kindOf x=some .free) /\ ∃ c,env.cells.lookup x=some c/\h.IsCell c (some u))
structure Cx.Ok (X:Cx):Prop where
 mod:Mod X.K X.mg X.base
 kind:X.env.scope.kind=.function
 glob:X.env.globals=mainGlobals
 blt:X.env.builtins=builtinsNs
 above:X.s₀.heap.objs.size<=X.env.locals
 inj:∀ x y c,X.env.cells.lookup x=some c->X.env.cells.lookup y=some c->x=y
 has:∀ x,(X.env.kindOf x=some .cell\/X.env.kindOf x=some .free) -> ∃ c,X.env.cells.lookup x=some c
 cab:∀ x c,X.fn x=true->X.env.cells.lookup x=some c->X.s₀.heap.objs.size<=c
 hd:X.calm=true->X.A.handled=none
 frames:X.A.frames=some X.stack
 stk:X.stack=X.outer\/(X.stack=X.env::X.outer/\X.env.frame=some X.env.locals)
 exf:∀ b∈X.ex,b≠X.env.locals /\ ∀ x c,X.env.cells.lookup x=some c->c≠b
 bs:∀ b o,X.base.get? b=some o->X.s₀.heap.get? b=some o/\X.H₀ b=none
 YM:X.base.objs.size<=X.s₀.heap.objs.size
 TD:∀ b o,X.base.get? b=some o->b∉X.ex
 YN:∀ b∈X.ex,b∉X.fs
 vD:X.s₀.heap.FunFrames X.base X.outer
 frf:∀ b∈X.fs,X.H₀ b=none
structure Inv (X:Cx) (pins:List (Addr×Obj)) (σ:List (Option V)) (H:Hp) (s:Shared):Prop where
 ok:X.Ok
 os:s.os=X.s₀.os
 bare:AllBare s.gens
 base:Un X.fs X.ex X.H₀ H X.s₀.heap s.heap
 loc:∃ m,s.heap.Ns X.env.locals m /\ ∀ (i:Nat) (x:Str) (v:V),X.N[i]? = some x->σ[i]? = some (some v)->EL X.env.scope x -> ∃ u,RelV v u/\Look X.env s.heap m x u
 cell:∀ x c,X.env.cells.lookup x=some c -> ∃ v,s.heap.IsCell c v
 free:H X.env.locals=none
 mI:∀ x c,X.env.cells.lookup x=some c->H c=none
 pin:∀ p∈X.pn++pins,s.heap.get? p.1=some p.2/\H p.1=none/\p.1≠X.env.locals/\p.1∉X.fs /\ ∀ v,p.2.data≠.cell v
 hok:pU X.prog X.w H s.heap
 len:σ.length=X.N.length
section
variable {X:Cx} {pins:List (Addr×Obj)} {σ:List (Option V)} {H H':Hp} {s:Shared} {h':Heap}
##Cx.Ok.aIb (ok:X.Ok) {b:Addr} {o:Obj} (e:X.base.get? b=some o):b∉X.fs:=fun hb=>by
 have:=(ok.vD.mem hb).1
 rw [e] at this; cases this
##Inv.bs (I:Inv X pins σ H s):∀ b o,X.base.get? b=some o->s.heap.get? b=some o/\H b=none:=fun b o e =>
 ⟨I.base.keep b o (I.ok.bs b o e).1 (I.ok.bs b o e).2 (I.ok.aIb e) (I.ok.TD b o e),I.base.free b o (I.ok.bs b o e).1 (I.ok.bs b o e).2 (I.ok.TD b o e)⟩
##Inv.bk (I:Inv X pins σ H s):∀ b o,X.base.get? b=some o->s.heap.get? b=some o:=fun b o e=>(I.bs b o e).1
##Inv.mod (I:Inv X pins σ H s):Mod X.K X.mg X.base:=I.ok.mod
##Inv.zH (I:Inv X pins σ H s):X.K.In s.heap:=I.ok.mod.kin.keeps I.bk
##Inv.fr (I:Inv X pins σ H s):∃ m,Fr X.base X.env.locals s.heap m :=
 let ⟨m,hn,_⟩:=I.loc
 ⟨m,hn,I.bk,Nat.le_trans I.ok.YM I.ok.above⟩
##Inv.lt (I:Inv X pins σ H s):X.env.locals<s.heap.objs.size:=let ⟨_,hn,_⟩:=I.loc; hn.lt
##Inv.sz (I:Inv X pins σ H s):X.s₀.heap.objs.size<=s.heap.objs.size:=Nat.le_trans I.ok.above (Nat.le_of_lt I.lt)
##Inv.aIc (I:Inv X pins σ H s) {a:Addr} (h:s.heap.objs.size<=a):a∉X.fs:=fun hb=>by
 &⟨_,o,ho,_⟩:=I.ok.vD.mem hb
 !absurd (Nat.lt_of_lt_of_le (Heap.lt_size ho) (Nat.le_trans I.sz h)) (Nat.lt_irrefl _)
##Inv.cne (I:Inv X pins σ H s):∀ x c,X.env.cells.lookup x=some c->c≠X.env.locals:=fun x c e z=>by
 &⟨v,o,ho,hd⟩:=I.cell x c e
 &⟨m,⟨o',es,ep,ho',hd',_⟩,_⟩:=I.loc
 rw [z,ho'] at ho; cases ho; rw [hd'] at hd; cases hd
##Inv.vD (I:Inv X pins σ H s):s.heap.FunFrames X.base X.outer:=by
 have all:∀ (l:List Env),(∀ b∈frs l,b∈X.fs)->X.s₀.heap.FunFrames X.base l->s.heap.FunFrames X.base l:=by
  intro l
  induction l with
  | nil=>intro _ _; trivial
  | cons env r ih =>
   intro hs hl
   &⟨hk,⟨L,o,hf,hn,ho,hd⟩,hr⟩:=hl
   have hL:L∈X.fs:=hs L (by ~frs; rw [List.filterMap_cons,hf]; !List.mem_cons_self)
   &⟨sl,e⟩:=I.base.slot L o ho (I.ok.frf L hL) hL fun z=>I.ok.YN L z hL
   !⟨hk,⟨L,_,hf,hn,e,hd⟩,ih (fun b hb=>hs b (by ~frs; rw [List.filterMap_cons,hf]; !List.mem_cons_of_mem _ hb)) hr⟩
 !all X.outer (fun _ hb=>hb) I.ok.vD
##Inv.stack (I:Inv X pins σ H s):s.heap.FunFrames X.base X.stack:=by
 rcases I.ok.stk with e | ⟨e,hf⟩
 ·rw [e]; !I.vD
 ·rw [e]
  &⟨m,hn,_⟩:=I.loc
  @.cons (by rw [I.ok.kind]; decide) hf hn ?_ I.vD
  !Heap.get?_none_of_le (Nat.le_trans I.ok.YM I.ok.above)
##Inv.qO (I:Inv X pins σ H s):∀ b∈frs X.stack,b∈X.env.locals::X.fs:=fun b hb=>by
 rcases I.ok.stk with e | ⟨e,hf⟩
 ·rw [e] at hb; !List.mem_cons_of_mem _ hb
 ·rw [e] at hb
  ~frs at hb
  rw [List.filterMap_cons,hf] at hb
  !hb
##Inv.DJ (I:Inv X pins σ H s):∀ b∈frs X.stack,H b=none:=fun b hb=>by
 rcases List.mem_cons.mp (I.qO b hb) with e | hb
 ·rw [e]; !I.free
 ·&⟨_,o,ho,_⟩:=I.ok.vD.mem hb
  !I.base.free b o ho (I.ok.frf b hb) fun z=>I.ok.YN b z hb
##Inv.step {g':Array GenState} {t':Nat} {d':Drawn} {ch:List Addr} (I:Inv X pins σ H s)
  (hch:∀ b∈ch,(b∈X.ex\/X.s₀.heap.objs.size<=b)/\b≠X.env.locals/\(∀ x c,X.env.cells.lookup x=some c->c≠b) /\ ∀ p∈X.pn++pins,p.1≠b)
  (keep:∀ b o,b≠X.env.locals->b∉X.fs->b∉ch->s.heap.get? b=some o->H b=none->h'.get? b=some o)
  (slot:∀ b o,b≠X.env.locals->b∈X.fs->b∉ch->s.heap.get? b=some o->H b=none -> ∃ sl,h'.get? b=some { o with slots:=sl }) (free:∀ b o,b∉ch->s.heap.get? b=some o->H b=none->H' b=none)
  (there:∀ b o,b∉ch->s.heap.get? b=some o -> ∃ o',h'.get? b=some o')
  (tups:∀ b xs,H b=some (.tup xs)->H' b=some (.tup xs)) (sB:∀ b o u,H b=some (.HL o u)->H' b=some (.HL o u)) (t4:∀ b ps,H b=some (.tbl ps) -> ∃ more,H' b=some (.tbl (ps++more)))
  (ns:∀ m,s.heap.Ns X.env.locals m->h'.Ns X.env.locals m) (hok:pU X.prog X.w H' h') (hg:AllBare g') :
  Inv X pins σ H' { s with heap:=h',gens:=g',drawn:=d',toks:=t' }:=by
 have neL:∀ b o,X.s₀.heap.get? b=some o->b≠X.env.locals:=fun b o e=>Nat.ne_of_lt (Nat.lt_of_lt_of_le (Heap.lt_size e) I.ok.above)
 have neC:∀ b o,X.s₀.heap.get? b=some o->b∉X.ex->b∉ch:=fun b o e hx hb=>by
  rcases (hch b hb).1 with z | z
  ·!hx z
  ·!absurd (Nat.lt_of_lt_of_le (Heap.lt_size e) z) (Nat.lt_irrefl _)
 have cellK:∀ x c,X.env.cells.lookup x=some c -> ∀ v,s.heap.IsCell c v->h'.IsCell c v:=fun x c e v hq0=>by
  &⟨o,ho,hd⟩:=hq0
  have nch:c∉ch:=fun z=>(hch c z).2.2.1 x c e rfl
  by_cases hc:c∈X.fs
  ·&⟨sl,q⟩:=slot c o (I.cne x c e) hc nch ho (I.mI x c e)
   !⟨_,q,hd⟩
  ·!⟨o,keep c o (I.cne x c e) hc nch ho (I.mI x c e),hd⟩
 @⟨I.ok,I.os,hg,⟨fun b o e n hb hx=>?_,fun b o e n hb hx=>?_,fun b o e n hx=>?_,fun b o e hx=>?_,fun b xs e=>tups b xs (I.base.tups b xs e),fun b o xs e=>sB b o xs (I.base.sB b o xs e),fun b ps e=>?_⟩,?_,fun x c e=>?_,?_,fun x c e=>?_,fun p hp=>?_,hok,I.len⟩
 ·!keep b o (neL b o e) hb (neC b o e hx) (I.base.keep b o e n hb hx) (I.base.free b o e n hx)
 ·&⟨sl,e1⟩:=I.base.slot b o e n hb hx
  &⟨sl',e2⟩:=slot b _ (neL b o e) hb (neC b o e hx) e1 (I.base.free b o e n hx)
  !⟨sl',e2⟩
 ·&⟨o',e1⟩:=I.base.there b o e hx
  !free b o' (neC b o e hx) e1 (I.base.free b o e n hx)
 ·&⟨o',e1⟩:=I.base.there b o e hx
  !there b o' (neC b o e hx) e1
 ·&⟨m1,e1⟩:=I.base.t4 b ps e
  &⟨m2,e2⟩:=t4 b _ e1
  !⟨m1++m2,by rw [e2,Array.append_assoc]⟩
 ·&⟨m,hn,hl⟩:=I.loc
  @⟨m,ns m hn,fun i x v e1 e2 e3=>?_⟩
  &⟨u,r,l⟩:=hl i x v e1 e2 e3
  @⟨u,r,?_⟩
  rcases l with l | ⟨k,c,e,z⟩
  ·!.inl l
  ·!.inr ⟨k,c,e,cellK x c e _ z⟩
 ·&⟨v,z⟩:=I.cell x c e
  !⟨v,cellK x c e v z⟩
 ·&⟨m,⟨o,_,_,ho,_⟩,_⟩:=I.loc
  !free _ o (fun z=>(hch _ z).2.1 rfl) ho I.free
 ·&⟨v,o,ho,hd⟩:=I.cell x c e
  !free c o (fun z=>(hch c z).2.2.1 x c e rfl) ho (I.mI x c e)
 ·&⟨e,n,ne,nf,d⟩:=I.pin p hp
  have nch:p.1∉ch:=fun z=>(hch p.1 z).2.2.2 p hp rfl
  !⟨keep p.1 p.2 ne nf nch e n,free p.1 p.2 nch e n,ne,nf,d⟩
##Inv.un {t':Nat} (I:Inv X pins σ H s) (u:Un X.fs [] H H' s.heap h') (hok:pU X.prog X.w H' h'):Inv X pins σ H' { s with heap:=h',toks:=t' }:=by
 &⟨m,⟨o,es,ep,ho,r⟩,_⟩:=id I.loc
 &⟨sl,hL⟩:=u.any ho I.free (by simp)
 !I.step (g':=s.gens) (d':=s.drawn) (ch:=[]) (fun _ z=>nomatch z) (fun b o _ hb _ e n=>u.keep b o e n hb (by simp)) (fun b o _ hb _ e n=>u.slot b o e n hb (by simp)) (fun b o _ e n=>u.free b o e n (by simp)) (fun b o _ e=>u.there b o e (by simp)) u.tups u.sB u.t4 (fun m' hm=>by
  &⟨o',es',ep',ho',r'⟩:=hm
  rw [ho] at ho'; cases ho'
  !⟨_,es',ep',hL,r'⟩) hok I.bare
##Inv.call {g':Array GenState} {t':Nat} {d':Drawn} {ch:List Addr} (I:Inv X pins σ H s) (u:Un (frs X.stack) ch H H' s.heap h') (hok:pU X.prog X.w H' h') (hg:AllBare g')
  (hch:∀ b∈ch,(b∈X.ex\/X.s₀.heap.objs.size<=b)/\b≠X.env.locals/\(∀ x c,X.env.cells.lookup x=some c->c≠b) /\ ∀ p∈X.pn++pins,p.1≠b) :
  Inv X pins σ H' { s with heap:=h',gens:=g',drawn:=d',toks:=t' }:=by
 &⟨m,⟨o,es,ep,ho,r⟩,_⟩:=id I.loc
 &⟨sl,hL⟩:=u.any ho I.free fun z=>(hch _ z).2.1 rfl
 !I.step (ch:=ch) hch (fun b o hL hb hc e n=>u.keep b o e n (fun z=>(List.mem_cons.mp (I.qO b z)).elim hL hb) hc) (fun b o _ _ hc e n=>u.any e n hc) (fun b o hc e n=>u.free b o e n hc) (fun b o hc e=>u.there b o e hc) u.tups u.sB u.t4 (fun m' hm=>by
  &⟨o',es',ep',ho',r'⟩:=hm
  rw [ho] at ho'; cases ho'
  !⟨_,es',ep',hL,r'⟩) hok hg
##Inv.turned {t':Nat} {it:Addr} (I:Inv X pins σ H s) (k:∀ b o,b≠it->s.heap.get? b=some o->h'.get? b=some o) (hn:H it=none) (hL:it≠X.env.locals)
  (h1:it∈X.ex\/X.s₀.heap.objs.size<=it) (h2:∀ x c,X.env.cells.lookup x=some c->c≠it) (h3:∀ p∈X.pn++pins,p.1≠it):Inv X pins σ H { s with heap:=h',toks:=t' }:=by
 have nit:∀ b u,H b=some u->b≠it:=fun b u e z=>by rw [z,hn] at e; cases e
 @I.step (g':=s.gens) (d':=s.drawn) (ch:=[it]) (fun b hb=>?_) (fun b o _ _ hc e _=>k b o (fun z=>hc (by simp [z])) e) (fun b o _ _ hc e _=>⟨o.slots,k b o (fun z=>hc (by simp [z])) e⟩) (fun _ _ _ _ n=>n)
  (fun b o hc e=>⟨o,k b o (fun z=>hc (by simp [z])) e⟩) (fun _ _ e=>e) (fun _ _ _ e=>e) (fun b ps e=>⟨#[],by rw [e]; simp⟩) (fun m hm=>?_) (fun b u e=>?_) I.bare
 ·have e:b=it:=¥hb
  subst e
  !⟨h1,hL,h2,h3⟩
 ·&⟨o,es,ep,ho,r⟩:=hm
  !⟨o,es,ep,k _ o (Ne.symm hL) ho,r⟩
 ·@(I.hok b u e).stay (fun c v hc q=>k c v ?_ q) (fun _ q=>q) fun _ _ q=>q
  rcases hc with z | z
  ·rw [z]; !nit b u e
  ·!nit c _ z
##Inv.tok (I:Inv X pins σ H s) (t:Nat):Inv X pins σ H { s with toks:=t }:=I.un (h':=s.heap) (t':=t) Un.refl I.hok
##Inv.kept {t':Nat} (I:Inv X pins σ H s) (k:∀ b u,s.heap.get? b=some u->h'.get? b=some u):Inv X pins σ H { s with heap:=h',toks:=t' }:=I.un (Un.kept k) (I.hok.kept k)
##Inv.laid {a:Addr} {o:HO} {t':Nat} (I:Inv X pins σ H s) (k:∀ b u,s.heap.get? b=some u->h'.get? b=some u) (hp:s.heap.objs.size<=a) (new:eA X.prog X.w (upd H a o) h' a o) :
  Inv X pins σ (upd H a o) { s with heap:=h',toks:=t' }:=I.un (Un.laid k hp (I.hok.fresh hp)) (I.hok.laid k hp new)
##Inv.write {x e:Addr} {o:HO} {t':Nat} (I:Inv X pins σ H s) (mu:Mut (H x)) (he:e=x\/H e=some (.own x)) (k:∀ b u,b≠e->s.heap.get? b=some u->h'.get? b=some u) (heo:∃ u,h'.get? e=some u)
  (new:eA X.prog X.w (upd H x o) h' x o):Inv X pins σ (upd H x o) { s with heap:=h',toks:=t' }:=I.un (Un.write mu he k heo) (I.hok.write mu he k heo new)
##Inv.weak {σ':List (Option V)} (I:Inv X pins σ H s) (hl:σ'.length=σ.length) (w:∀ (i:Nat) v,σ'[i]? = some (some v)->σ[i]? = some (some v)):Inv X pins σ' H s :=
 ⟨I.ok,I.os,I.bare,I.base,let ⟨m,hn,hl'⟩:=I.loc; ⟨m,hn,fun i x v e1 e2 e3=>hl' i x v e1 (w i v e2) e3⟩,I.cell,I.free,I.mI,I.pin,I.hok,hl.trans I.len⟩
##Inv.LY {LZ:List (Addr×Obj)} (I:Inv X pins σ H s) (h:∀ p∈LZ,s.heap.get? p.1=some p.2/\H p.1=none/\p.1≠X.env.locals/\p.1∉X.fs /\ ∀ v,p.2.data≠.cell v):Inv X LZ σ H s :=
 ⟨I.ok,I.os,I.bare,I.base,I.loc,I.cell,I.free,I.mI,fun p hp=>(List.mem_append.mp hp).elim (fun z=>I.pin p (List.mem_append_left _ z)) (h p),I.hok,I.len⟩
##FQ {N:List Str} (hN:N.Nodup) {i j:Nat} {x:Str} (a:N[i]? = some x) (b:N[j]? = some x):i=j:=by
 &⟨h1,e1⟩:=List.getElem?_eq_some_iff.mp a
 &⟨h2,e2⟩:=List.getElem?_eq_some_iff.mp b
 !(List.getElem_inj hN).mp (e1.trans e2.symm)
##BH {M:Model} {A:Around} {E:Value->Shared->Prop} {i:Nat} {x:Str} {v:V} {u:Value} {Q:Unit->Shared->Prop} (I:Inv X pins σ H s) (hN:X.N.Nodup) (hi:X.N[i]? = some x) (hx:Loc X.env.scope x) (r:RelV v u)
  (h:∀ s',Inv X pins (σ.set i (some v)) H s'->(∃ a,Heap.SameBut a s.heap s'.heap/\(a=X.env.locals\/X.env.cells.lookup x=some a))->Q () s') (hf:X.fn x=true\/X.env.scope.names.lookup x=some .local:=by first | !.inl rfl | !.inr rfl | assumption):wpAny M A (storeName X.env x u) Q E s:=by
 &⟨m,hn,hl⟩:=id I.loc
 have hcls:(X.env.scope.kind == .class||(X.env.scope.kind == .module&&X.env.locals != X.env.globals))=false:=by rw [I.ok.kind]; rfl
 have hiσ:i<σ.length:=by rw [I.len]; !(List.getElem?_eq_some_iff.mp hi).1
 have cne:=I.cne
 have tracked:∀ {a:Addr} {h':Heap},(∃ o,s.heap.get? a=some o/\H a=none)->Heap.SameBut a s.heap h'->pU X.prog X.w H h':=fun {a h'} ha hs b ob e=>by
  &⟨_,_,hfree⟩:=ha
  @(I.hok b ob e).stay (fun c w' hc q=>(hs.2 c ?_).trans q) (fun _ q=>q) fun _ _ q=>q
  rintro rfl
  rcases hc with rfl | hc
  ·rw [hfree] at e; cases e
  ·rw [hfree] at hc; cases hc
 rcases hx with hk | hk
 ·@wpAny_storeName_local hk hn (fun h' hn' hs=>?_) hcls
  &⟨oL,_,_,hoL,_⟩:=id hn
  @h _ ⟨I.ok,I.os,I.bare,⟨fun b o e n hb hx=>?_,fun b o e n hb hx=>?_,I.base.free,fun b o e hx=>?_,I.base.tups,I.base.sB,I.base.t4⟩,⟨_,hn',fun j y v' e1 e2 e3=>?_⟩,fun y c e=>?_,I.free,I.mI,fun p hp=>?_,tracked ⟨oL,hoL,I.free⟩ hs,¥I.len⟩ ⟨_,hs,.inl rfl⟩
  ·!(hs.2 b (Nat.ne_of_lt (Nat.lt_of_lt_of_le (Heap.lt_size e) I.ok.above))).trans (I.base.keep b o e n hb hx)
  ·&⟨sl,e1⟩:=I.base.slot b o e n hb hx
   !⟨sl,(hs.2 b (Nat.ne_of_lt (Nat.lt_of_lt_of_le (Heap.lt_size e) I.ok.above))).trans e1⟩
  ·&⟨o',e1⟩:=I.base.there b o e hx
   !⟨o',(hs.2 b (Nat.ne_of_lt (Nat.lt_of_lt_of_le (Heap.lt_size e) I.ok.above))).trans e1⟩
  ·by_cases hj:j=i
   ·subst hj
    rw [hi] at e1; cases e1
    rw [List.getElem?_set_self hiσ] at e2
    cases e2
    !⟨u,r,.inl ⟨hk,by simp⟩⟩
   ·rw [List.getElem?_set_ne (Ne.symm hj)] at e2
    &⟨u',r',q⟩:=hl j y v' e1 e2 e3
    @⟨u',r',?_⟩
    rcases q with ⟨k,e⟩ | ⟨k,c,e,z⟩
    ·@.inl ⟨k,?_⟩
     have:y≠x:=fun e=>hj (FQ hN e1 (e▸hi))
     simp [this,e]
    ·!.inr ⟨k,c,e,z.sameBut hs (cne y c e)⟩
  ·&⟨w',z⟩:=I.cell y c e
   !⟨w',z.sameBut hs (cne y c e)⟩
  ·&⟨e,n,ne,nf,d⟩:=I.pin p hp
   !⟨(hs.2 p.1 ne).trans e,n,ne,nf,d⟩
 ·have hfn:X.fn x=true:=by
   rcases hf with z | z
   ·!z
   ·rw [z] at hk; cases hk
  &⟨c,hc⟩:=I.ok.has x (.inl hk)
  &⟨w',z⟩:=I.cell x c hc
  @wpAny_storeName_cell I.ok.kind hk hc z (fun h' hc' hs=>?_)
  &⟨oc,hoc,aIe⟩:=id z
  @h { s with heap:=h' } ⟨I.ok,I.os,I.bare,⟨fun b o e n hb hx=>?_,fun b o e n hb hx=>?_,I.base.free,fun b o e hx=>?_,I.base.tups,I.base.sB,I.base.t4⟩,⟨m,hn.sameBut hs (Ne.symm (cne x c hc)),fun j y v' e1 e2 e3=>?_⟩,fun y c' e=>?_,I.free,I.mI,fun p hp=>?_,tracked ⟨oc,hoc,I.mI x c hc⟩ hs,¥I.len⟩ ⟨c,hs,.inr hc⟩
  ·!(hs.2 b (Nat.ne_of_lt (Nat.lt_of_lt_of_le (Heap.lt_size e) (I.ok.cab x c hfn hc)))).trans (I.base.keep b o e n hb hx)
  ·&⟨sl,e1⟩:=I.base.slot b o e n hb hx
   !⟨sl,(hs.2 b (Nat.ne_of_lt (Nat.lt_of_lt_of_le (Heap.lt_size e) (I.ok.cab x c hfn hc)))).trans e1⟩
  ·&⟨o',e1⟩:=I.base.there b o e hx
   !⟨o',(hs.2 b (Nat.ne_of_lt (Nat.lt_of_lt_of_le (Heap.lt_size e) (I.ok.cab x c hfn hc)))).trans e1⟩
  ·by_cases hj:j=i
   ·subst hj
    rw [hi] at e1; cases e1
    rw [List.getElem?_set_self hiσ] at e2
    cases e2
    !⟨u,r,.inr ⟨.inl hk,c,hc,hc'⟩⟩
   ·rw [List.getElem?_set_ne (Ne.symm hj)] at e2
    &⟨u',r',q⟩:=hl j y v' e1 e2 e3
    @⟨u',r',?_⟩
    rcases q with q | ⟨k,c',e,z'⟩
    ·!.inl q
    ·@.inr ⟨k,c',e,z'.sameBut hs ?_⟩
     rintro rfl
     !hj (FQ hN e1 (I.ok.inj _ _ _ e hc▸hi))
  ·by_cases hcc:c' = c
   ·subst hcc; !⟨_,hc'⟩
   ·&⟨w2,z2⟩:=I.cell y c' e
    !⟨w2,z2.sameBut hs hcc⟩
  ·&⟨e,n,ne,nf,d⟩:=I.pin p hp
   @⟨(hs.2 p.1 ?_).trans e,n,ne,nf,d⟩
   intro q
   rw [q,hoc] at e
   have q':oc=p.2:=Option.some.inj e
   !d w' (by rw [<- q']; !aIe)
##sC {M:Model} {A:Around} {E:Value->Shared->Prop} {i:Nat} {x:Str} {v:V} {u:Value} {Q:Unit->Shared->Prop} (I:Inv X pins σ H s) (hN:X.N.Nodup) (hi:X.N[i]? = some x) (hx:Loc X.env.scope x) (r:RelV v u)
  (h:∀ s',Inv X pins (σ.set i (some v)) H s'->Q () s') (hf:X.fn x=true\/X.env.scope.names.lookup x=some .local:=by first | !.inl rfl | !.inr rfl | assumption):wpAny M A (storeName X.env x u) Q E s :=
 BH I hN hi hx r (fun s' I' _=>h s' I') hf
##Inv.call' {s':Shared} {ch:List Addr} (I:Inv X pins σ H s) (ho:s'.os=s.os) (u:Un (frs X.stack) ch H H' s.heap s'.heap) (hok:pU X.prog X.w H' s'.heap) (hg:AllBare s'.gens)
  (hch:∀ b∈ch,(b∈X.ex\/X.s₀.heap.objs.size<=b)/\b≠X.env.locals/\(∀ x c,X.env.cells.lookup x=some c->c≠b) /\ ∀ p∈X.pn++pins,p.1≠b):Inv X pins σ H' s':=by
 &⟨h',g',d',t',o'⟩:=s'
 have e:o' = s.os:=ho
 subst e
 !I.call (g':=g') (t':=t') (d':=d') u hok hg hch
end
abbrev XK:=Value->Option Addr->Hp->Prop
abbrev St:=List (Option V)
abbrev VK:=V->Hp->Prop
abbrev TE:=St->Hp->VK->Prop
abbrev TT:=St->Hp->(Bool->Hp->Prop)->Prop
abbrev TA:=St->Hp->(List V->Hp->Prop)->Prop
structure Ends where
 nx:St->Hp->Prop
 rt:VK
 bk:St->Hp->Prop:=fun _ _=>False
 ct:St->Hp->Prop:=fun _ _=>False
abbrev TS:=Ends->St->Hp->Prop
def EP (X:Cx) (pins:List (Addr×Obj)) (σ:St) (Q:VK) (u:Value) (s':Shared):Prop:=∃ v H',Inv X pins σ H' s'/\RelV v u/\Q v H'
def TP (X:Cx) (pins:List (Addr×Obj)) (σ:St) (Q:Bool->Hp->Prop) (b:Bool) (s':Shared):Prop:=∃ H',Inv X pins σ H' s'/\Q b H'
def AP (X:Cx) (pins:List (Addr×Obj)) (σ:St) (Q:List V->Hp->Prop) (us:List Value) (s':Shared):Prop:=∃ vs H',Inv X pins σ H' s'/\Vals vs us/\Q vs H'
def SP (X:Cx) (pins:List (Addr×Obj)) (D:Ends) (f:Flow) (s':Shared):Prop :=
 match f with
 | .next=>∃ σ' H',Inv X pins σ' H' s'/\D.nx σ' H'
 | .brk=>∃ σ' H',Inv X pins σ' H' s'/\D.bk σ' H'
 | .cont=>∃ σ' H',Inv X pins σ' H' s'/\D.ct σ' H'
 | .ret u=>∃ v σ' H',Inv X pins σ' H' s'/\RelV v u/\D.rt v H'
def PE (X:Cx) (e:Expr) (t:TE):Prop :=
 ∀ (pins:List (Addr×Obj)) (s:Shared) (σ:St) (H:Hp) (Q:VK),Inv X pins σ H s->t σ H Q->wpAny (model X.prog X.w) X.A (eval e X.env) (EP X pins σ Q) X.xe s
def PT (X:Cx) (e:Expr) (t:TT):Prop :=
 ∀ (pins:List (Addr×Obj)) (s:Shared) (σ:St) (H:Hp) (Q:Bool->Hp->Prop),Inv X pins σ H s->t σ H Q->wpAny (model X.prog X.w) X.A (isTrue e X.env (eval e X.env)) (TP X pins σ Q) X.xe s
def PW (X:Cx) (e:Expr) (t:TT):Prop :=
 ∀ (whole:Sem Value) (pins:List (Addr×Obj)) (s:Shared) (σ:St) (H:Hp) (Q:Bool->Hp->Prop),Inv X pins σ H s->t σ H Q->wpAny (model X.prog X.w) X.A (isTrue e X.env whole) (TP X pins σ Q) X.xe s
##PW.pt {X:Cx} {e:Expr} {t:TT} (h:PW X e t):PT X e t:=h _
def PA (X:Cx) (es:List Expr) (t:TA):Prop :=
 ∀ (pos:Pos) (pins:List (Addr×Obj)) (s:Shared) (σ:St) (H:Hp) (Q:List V->Hp->Prop),Inv X pins σ H s->t σ H Q->wpAny (model X.prog X.w) X.A (spliced (backTo pos (starEach es X.env))) (AP X pins σ Q) X.xe s
def PS (X:Cx) (st:Stmt) (t:TS):Prop :=
 ∀ (pins:List (Addr×Obj)) (s:Shared) (σ:St) (H:Hp) (D:Ends),Inv X pins σ H s->t D σ H->wpAny (model X.prog X.w) X.A (exec st X.env) (SP X pins D) X.xe s
def HM (X:Cx) (st:List Stmt) (t:TS):Prop :=
 ∀ (pins:List (Addr×Obj)) (s:Shared) (σ:St) (H:Hp) (D:Ends),Inv X pins σ H s->t D σ H->wpAny (model X.prog X.w) X.A (execs st X.env) (SP X pins D) X.xe s
##dN {α:Type} {t:Sem α} {Q Q':α->Shared->Prop} {M:Model} {A:Around} {E:Value->Shared->Prop} {s:Shared} (h:wpAny M A t Q E s) (hQ:∀ a s,Q a s->Q' a s):wpAny M A t Q' E s:=wpAny_mono h hQ fun _ _ x=>x
end L2
namespace L2
open PySem PySem.Spec PyProof.Rows
section
variable {X:Cx}
def aBh (i:Nat):TE:=fun σ H Q=>∃ v,σ[i]? = some (some v)/\Q v H
def tC (v:V):TE:=fun _ H Q=>Q v H
##t5 {i:Nat} {x:Str} {pos:Pos} (hN:X.N[i]? = some x) (hv:EL X.env.scope x) (hd:(x == ("__debug__" : Str))=false:=by decide) (hcd:(x == ("__classdict__" : Str))=false:=by decide):PE X (.Name x pos) (aBh i):=by
 intro pins s σ H Q I h
 &⟨v,e,h⟩:=h
 &⟨m,hn,hl⟩:=I.loc
 &⟨u,r,l⟩:=hl i x v hN e hv
 have fin:EP X pins σ Q u s:=⟨v,H,I,r,h⟩
 rcases l with ⟨hk,hm⟩ | ⟨hk,c,hc,hcell⟩
 ·!wpAny_Name (wpAny_loadName_local I.ok.kind hk hn hm fin) hd
 ·rcases hk with hk | hk
  ·!wpAny_Name (wpAny_loadName_cell I.ok.kind hk hc hcell fin) hd
  ·!wpAny_Name (wpAny_loadName_free I.ok.kind hk hc hcell fin hcd) hd
##aBi {i j pos}:PE X (.Constant (.int i) j pos) (tC (.int i)):=fun _ _ _ H _ I h=>wpAny_Constant_int ⟨.int i,H,I.tok _,⟨_,rfl⟩,h⟩
##aEM {b j pos}:PE X (.Constant (.bool b) j pos) (tC (.bl b)):=fun _ _ _ H _ I h=>Constant_bool ⟨.bl b,H,I,rfl,h⟩
##aBj {x j pos}:PE X (.Constant (.str x) j pos) (tC (.str x)):=fun _ _ _ H _ I h=>Calls.Constant_str ⟨.str x,H,I.tok _,⟨_,rfl⟩,h⟩
def Gl (X:Cx) (x:Str):Prop:=X.env.kindOf x=some .globalImplicit
##DK {E:Value->Shared->Prop} {pins:List (Addr×Obj)} {s:Shared} {σ:St} {H:Hp} {x:Str} {u:Value} {pos:Pos} {Q:Value->Shared->Prop} (I:Inv X pins σ H s) (hg:Gl X x) (hm:X.mg x=some u) (h:Q u s)
  (hd:(x == ("__debug__" : Str))=false:=by decide):wpAny (model X.prog X.w) X.A (eval (.Name x pos) X.env) Q E s :=
 Calls.Name_function_global I.ok.kind hg (Calls.loadGlobal_global (by rw [I.ok.glob]; !I.mod.glob.keeps I.bk) hm h) hd
##qP {E:Value->Shared->Prop} {pins:List (Addr×Obj)} {s:Shared} {σ:St} {H:Hp} {x:Str} {u:Value} {pos:Pos} {Q:Value->Shared->Prop} (I:Inv X pins σ H s) (hg:Gl X x) (hm:X.mg x=none) (hv:bootBuiltins x=some u) (h:Q u s)
  (hn:x ≠ "__name__" := by decide) (hd:(x == ("__debug__" : Str))=false:=by decide):wpAny (model X.prog X.w) X.A (eval (.Name x pos) X.env) Q E s:=by
 &⟨mb,h1,h2⟩:=I.mod.blt
 !Calls.Name_function_global I.ok.kind hg (Calls.loadGlobal_builtin (by rw [I.ok.glob]; !I.mod.glob.keeps I.bk) hm (by rw [I.ok.blt]; !h1.keeps I.bk) ((h2 x hn).trans hv) h) hd
##YO {x:Str} {v:V} {u:Value} {pos:Pos} (hg:Gl X x) (hm:X.mg x=some u) (r:RelV v u) (hd:(x == ("__debug__" : Str))=false:=by decide):PE X (.Name x pos) (tC v) :=
 fun _ _ _ H _ I h=>DK I hg hm ⟨v,H,I,r,h⟩ hd
##YQ {x:Str} {v:V} {u:Value} {pos:Pos} (hg:Gl X x) (hm:X.mg x=none) (hv:bootBuiltins x=some u) (r:RelV v u) (hn:x ≠ "__name__" := by decide) (hd:(x == ("__debug__" : Str))=false:=by decide):PE X (.Name x pos) (tC v) :=
 fun _ _ _ H _ I h=>qP I hg hm hv ⟨v,H,I,r,h⟩ hn hd
variable {a b:Expr} {ta tb:TE} {pos:Pos}
def PC (X:Cx) (op:CmpOp) (a b:Expr) (t:TE):Prop :=
 ∀ (pins:List (Addr×Obj)) (s:Shared) (σ:St) (H:Hp) (Q:VK),Inv X pins σ H s->t σ H Q ->
  wpAny (model X.prog X.w) X.A (eval a X.env) (fun v s₁=>wpAny (model X.prog X.w) X.A (eval b X.env) (fun u s₂=>wpAny (model X.prog X.w) X.A (compareOp op v u) (EP X pins σ Q) X.xe s₂) X.xe s₁) X.xe s
def tB (t:TE):TT:=fun σ H Q=>t σ H fun x H1=>∃ c,x=.bl c/\Q c H1
##TH {op:CmpOp} {t:TE} (h:PC X op a b t) (h1:behindInMarks op b=false:=by first | !aEN _ § § | rfl):PT X (.Compare a [op] [b] pos) (tB t):=by
 intro pins s σ H Q I hw
 @wpAny_isTrue_Compare1 (dN (h pins s σ H _ I hw) fun v s1 h1=>dN h1 fun u s2 h2=>dN h2 fun c s3 ⟨x,H1,I1,r1,q1⟩=>?_) h1
 &⟨d,rfl,q⟩:=q1
 cases r1
 !wpAny_truthy_bool ⟨H1,I1,q⟩
variable {tA tB':TT} {rest:List Expr}
def kX (t u:TT):TT:=fun σ H Q=>t σ H fun c H1=>if c=true then u σ H1 Q else Q false H1
def u4 (t u:TT):TT:=fun σ H Q=>t σ H fun c H1=>if c=true then Q true H1 else u σ H1 Q
def hZ (t:TT):TT:=fun σ H Q=>t σ H fun c H1=>Q (!c) H1
##YR (ha:PT X a tA):PW X (.BoolOp .And [a] pos) tA:=by
 intro wh pins s σ H Q I h
 @isTrue_and (dN (ha pins s σ H Q I h) fun c s1 e=>?_)
 cases c with
 | true=>!isTrue_and_nil e
 | false=>!e
##aBk (ha:PT X a tA):PW X (.BoolOp .Or [a] pos) tA:=by
 intro wh pins s σ H Q I h
 @isTrue_or (dN (ha pins s σ H Q I h) fun c s1 e=>?_)
 cases c with
 | false=>!isTrue_or_nil e
 | true=>!e
##aBl (ha:PT X a tA) (hb:PW X (.BoolOp .And (b::rest) pos) tB'):PW X (.BoolOp .And (a::b::rest) pos) (kX tA tB'):=by
 intro wh pins s σ H Q I h
 @isTrue_and (dN (ha pins s σ H _ I h) fun c s1 ⟨H1,I1,q1⟩=>?_)
 cases c with
 | true=>!hb wh pins s1 σ H1 Q I1 q1
 | false=>!⟨H1,I1,q1⟩
##aEO (ha:PT X a tA) (hb:PW X (.BoolOp .Or (b::rest) pos) tB'):PW X (.BoolOp .Or (a::b::rest) pos) (u4 tA tB'):=by
 intro wh pins s σ H Q I h
 @isTrue_or (dN (ha pins s σ H _ I h) fun c s1 ⟨H1,I1,q1⟩=>?_)
 cases c with
 | true=>!⟨H1,I1,q1⟩
 | false=>!hb wh pins s1 σ H1 Q I1 q1
##aBm (ha:PT X a tA):PT X (.UnaryOp .Not a pos) (hZ tA):=by
 intro pins s σ H Q I h
 !isTrue_not (ha pins s σ H (fun c H1=>Q (!c) H1) I h)
def aEP (ta tb:TE):TE:=fun σ H Q=>ta σ H fun x H1=>∃ c,x=.bl c/\if c=true then tb σ H1 Q else Q (.bl false) H1
def aIf (ta tb:TE):TE:=fun σ H Q=>ta σ H fun x H1=>∃ c,x=.bl c/\if c=true then Q (.bl true) H1 else tb σ H1 Q
##aBn {op} {t:TE} (h:PE X a t):PE X (.BoolOp op [a] pos) t:=fun pins s σ H Q I hw=>BoolOp_one (h pins s σ H Q I hw)
##aBo (ha:PE X a ta) (hb:PE X (.BoolOp .And (b::rest) pos) tb):PE X (.BoolOp .And (a::b::rest) pos) (aEP ta tb):=by
 intro pins s σ H Q I h
 @BoolOp_and (dN (ha pins s σ H _ I h) fun v s1 ⟨x,H1,I1,r1,q1⟩=>?_)
 &⟨c,rfl,q1⟩:=q1
 cases r1
 @wpAny_truthy_bool ?_
 cases c with
 | true=>!hb pins s1 σ H1 Q I1 q1
 | false=>!⟨.bl false,H1,I1,rfl,q1⟩
##aEQ (ha:PE X a ta) (hb:PE X (.BoolOp .Or (b::rest) pos) tb):PE X (.BoolOp .Or (a::b::rest) pos) (aIf ta tb):=by
 intro pins s σ H Q I h
 @BoolOp_or (dN (ha pins s σ H _ I h) fun v s1 ⟨x,H1,I1,r1,q1⟩=>?_)
 &⟨c,rfl,q1⟩:=q1
 cases r1
 @wpAny_truthy_bool ?_
 cases c with
 | false=>!hb pins s1 σ H1 Q I1 q1
 | true=>!⟨.bl true,H1,I1,rfl,q1⟩
def tIf (t:TT) (ta tb:TE):TE:=fun σ H Q=>t σ H fun c H1=>if c=true then ta σ H1 Q else tb σ H1 Q
##TJ {c:Expr} (hc:PT X c tA) (ha:PE X a ta) (hb:PE X b tb):PE X (.IfExp c a b pos) (tIf tA ta tb):=by
 intro pins s σ H Q I h
 @wpAny_IfExp (dN (hc pins s σ H _ I h) fun d s1 ⟨H1,I1,q1⟩=>?_)
 cases d with
 | true=>!ha pins s1 σ H1 Q I1 q1
 | false=>!hb pins s1 σ H1 Q I1 q1
end
end L2
namespace L2
open PySem PySem.Spec PyProof.Rows
def gH (K:PySem.W.Frag) (H:Hp) (a:Addr) (xs:List V):Prop :=
 Rd H a (.lst xs) \/
  ∃ (o:Obj) (its:Array Value) (n:Nat),K.lookup a=some o/\o.cls=.type "list" /\ o.dict=none/\o.data=.seq its n/\its.size<=sizeLine/\Vals xs its.toList
def gA (K:PySem.W.Frag) (H:Hp) (a:Addr) (xs:List V):Prop :=
 Rd H a (.tup xs) \/
  ∃ (o:Obj) (its:Array Value) (n:Nat),K.lookup a=some o/\o.cls=.type "tuple" /\ o.data=.seq its n/\its.size<=sizeLine/\Vals xs its.toList
def aIg:Value->Option V
 | .none=>some .non
 | .bool b=>some (.bl b)
 | .int i _=>some (.int i)
 | .str x _=>some (.str x)
 | .bytes b _=>some (.N6 b)
 | .float b _=>some (.flt b)
 | .ref a=>some (.ref a)
 | .type n=>some (.ty n)
 | _=>none
##RelV.abs {x:V} {u:Value} (r:RelV x u):aIg u=some x:=by
 cases x with
 | non=>cases r; rfl
 | bl _=>cases r; rfl
 | int _=>&⟨t,rfl⟩:=r; rfl
 | str _=>&⟨t,rfl⟩:=r; rfl
 | N6 _=>&⟨t,rfl⟩:=r; rfl
 | flt _=>&⟨t,rfl⟩:=r; rfl
 | ref _=>cases r; rfl
 | ty _=>cases r; rfl
##RelV.inj {x y:V} {u:Value} (r:RelV x u) (q:RelV y u):x=y:=Option.some.inj (r.abs.symm.trans q.abs)
##Vals.inj:∀ {xs ys:List V} {us:List Value},Vals xs us->Vals ys us->xs=ys
 | _,_,_,.nil,.nil=>rfl
 | _,_,_,.cons r t,.cons r' t'=>by rw [r.inj r',Vals.inj t t']
section
variable {X:Cx} {pins:List (Addr×Obj)} {σ:St} {H:Hp} {s:Shared} {a:Addr} {xs ys:List V}
##gH.of {K:PySem.W.Frag} (h:H a=some (.lst xs)):gH K H a xs:=.inl (.inl h)
##gA.of {K:PySem.W.Frag} (h:H a=some (.tup xs)):gA K H a xs:=.inl (.inl h)
##Inv.list (I:Inv X pins σ H s) (h:gH X.K H a xs):∃ its:List Value,Vals xs its/\PlainL s.heap a its.toArray/\xs.length<=sizeLine:=by
 rcases h with h | ⟨o,its,n,hk,hc,hd,hs,hz,r⟩
 ·&⟨z,its,n,r,e⟩:=h.ok I.hok
  !⟨its,r,⟨_,n,e,rfl,rfl,rfl⟩,z⟩
 ·@⟨its.toList,r,⟨o,n,I.zH a o hk,hc,hd,¥hs⟩,?_⟩
  have e:=r.length
  simp only [Array.length_toList] at e
  omega
##Inv.tuple (I:Inv X pins σ H s) (h:gA X.K H a xs):∃ its:List Value,Vals xs its/\IsTup s.heap a its.toArray/\xs.length<=sizeLine:=by
 rcases h with h | ⟨o,its,n,hk,hc,hs,hz,r⟩
 ·&⟨z,its,r,p⟩:=h.ok I.hok
  !⟨its,r,p,z⟩
 ·@⟨its.toList,r,⟨o,I.zH a o hk,hc,n,¥hs⟩,?_⟩
  have e:=r.length
  simp only [Array.length_toList] at e
  omega
##Inv.sD (I:Inv X pins σ H s) (h:gH X.K H a xs) (h':gH X.K H a ys):xs=ys:=by
 &⟨its,r,⟨o,n,e,_,_,d⟩,_⟩:=I.list h
 &⟨its',r',⟨o',n',e',_,_,d'⟩,_⟩:=I.list h'
 rw [e] at e'; cases e'
 rw [d] at d'
 injection d' with d1 _
 have:its=its':=¥congrArg Array.toList d1
 subst this
 !r.inj r'
##Inv.mJ (I:Inv X pins σ H s) (h:gA X.K H a xs) (h':gA X.K H a ys):xs=ys:=by
 &⟨its,r,⟨o,e,_,n,d⟩,_⟩:=I.tuple h
 &⟨its',r',⟨o',e',_,n',d'⟩,_⟩:=I.tuple h'
 rw [e] at e'; cases e'
 rw [d] at d'
 injection d' with d1 _
 have:its=its':=¥congrArg Array.toList d1
 subst this
 !r.inj r'
end
abbrev Cx.wish (X:Cx) (E:Value->Shared->Prop):Cx:={ X with xe:=E }
abbrev Cx.nox (X:Cx):Cx:=X.wish fun _ _=>False
##Cx.Ok.wish {X:Cx} (ok:X.Ok) (E:Value->Shared->Prop):(X.wish E).Ok :=
 ⟨ok.mod,ok.kind,ok.glob,ok.blt,ok.above,ok.inj,ok.has,ok.cab,ok.hd,ok.frames,ok.stk,ok.exf,ok.bs,ok.YM,ok.TD,ok.YN,ok.vD,ok.frf⟩
##Cx.Ok.nB {X:Cx} {E:Value->Shared->Prop} (ok:(X.wish E).Ok):X.Ok :=
 ⟨ok.mod,ok.kind,ok.glob,ok.blt,ok.above,ok.inj,ok.has,ok.cab,ok.hd,ok.frames,ok.stk,ok.exf,ok.bs,ok.YM,ok.TD,ok.YN,ok.vD,ok.frf⟩
section
variable {X:Cx} {pins:List (Addr×Obj)} {σ:St} {H:Hp} {s:Shared} {E:Value->Shared->Prop}
##Inv.wish (I:Inv X pins σ H s) (E:Value->Shared->Prop):Inv (X.wish E) pins σ H s:=⟨I.ok.wish E,I.os,I.bare,I.base,I.loc,I.cell,I.free,I.mI,I.pin,I.hok,I.len⟩
##Inv.nB (I:Inv (X.wish E) pins σ H s):Inv X pins σ H s:=⟨I.ok.nB,I.os,I.bare,I.base,I.loc,I.cell,I.free,I.mI,I.pin,I.hok,I.len⟩
##SP.nB {D:Ends} {f:Flow} {s':Shared} (h:SP (X.wish E) pins D f s'):SP X pins D f s':=by
 cases f with
 | next=>&⟨σ',H',I,q⟩:=h; !⟨σ',H',I.nB,q⟩
 | brk=>&⟨σ',H',I,q⟩:=h; !⟨σ',H',I.nB,q⟩
 | cont=>&⟨σ',H',I,q⟩:=h; !⟨σ',H',I.nB,q⟩
 | ret u=>&⟨v,σ',H',I,r,q⟩:=h; !⟨v,σ',H',I.nB,r,q⟩
##HM.nox {st:List Stmt} {t:TS} (h:HM X.nox st t):HM X st t:=fun pins s σ H D I hw =>
 wpAny_mono (h pins s σ H D (I.wish _) hw) (fun _ _ q=>q.nB) fun _ _ z=>False.elim z
end
section
variable {X:Cx} {st:Stmt} {rest:List Stmt} {t u:TS} {e:Expr} {te:TE} {pos:Pos}
def aER:TS:=fun D σ H=>D.nx σ H
def aIh (t u:TS):TS:=fun D σ H=>t { D with nx:=u D } σ H
##YS:HM X [] aER:=fun _ _ σ H _ I h=>wpAny_execs_nil ⟨σ,H,I,h⟩
##TK (h1:PS X st t) (h2:HM X rest u):HM X (st::rest) (aIh t u):=by
 intro pins s σ H D I h
 @wpAny_execs_cons (dN (h1 pins s σ H { D with nx:=u D } I h) fun f s1 q=>?_)
 cases f with
 | next =>
  &⟨σ',H',I',q⟩:=q
  !h2 pins s1 σ' H' D I' q
 | ret v=>!q
 | brk=>!q
 | cont=>!q
##YT (h1:PS X st t):HM X [st] t:=by
 intro pins s σ H D I h
 @wpAny_execs_cons (dN (h1 pins s σ H D I h) fun f s1 q=>?_)
 cases f with
 | next=>!wpAny_execs_nil q
 | ret v=>!q
 | brk=>!q
 | cont=>!q
##Inv.quiet {pins:List (Addr×Obj)} {σ:St} {H:Hp} {s:Shared} (I:Inv X pins σ H s):interactive X.env=false:=by simp [interactive,I.ok.kind]
def aES (te:TE):TS:=fun D σ H=>te σ H fun _ H1=>D.nx σ H1
##L1 (he:PE X e te) (hs:swapsWith e none pos.line X.env=pure false:=by rfl):PS X (.Expr e pos) (aES te):=by
 intro pins s σ H D I h
 !wpAny_Expr_any (dN (he pins s σ H _ I h) fun v s1 ⟨x,H1,I1,r1,q1⟩=>⟨σ,H1,I1,q1⟩) I.quiet hs
def aIi (te:TE):TS:=fun D σ H=>te σ H D.rt
##TL (he:PE X e te):PS X (.Return (some e) pos) (aIi te):=by
 intro pins s σ H D I h
 !wpAny_Return_some (dN (he pins s σ H _ I h) fun v s1 ⟨x,H1,I1,r1,q1⟩=>⟨x,σ,H1,I1,r1,q1⟩)
def aIj (c:TT) (t u:TS):TS:=fun D σ H=>c σ H fun b H1=>if b=true then t D σ H1 else u D σ H1
##aET {c:Expr} {a b:List Stmt} {tc:TT} (hc:PT X c tc) (ha:HM X a t) (hb:HM X b u):PS X (.If c a b pos) (aIj tc t u):=by
 intro pins s σ H D I h
 @wpAny_If (dN (hc pins s σ H _ I h) fun d s1 ⟨H1,I1,q1⟩=>?_)
 cases d with
 | true=>!ha pins s1 σ H1 D I1 q1
 | false=>!hb pins s1 σ H1 D I1 q1
end
abbrev TG:=V->St->Hp->(St->Hp->Prop)->Prop
abbrev TGs:=List V->St->Hp->(St->Hp->Prop)->Prop
def PG (X:Cx) (target:Expr) (t:TG):Prop :=
 ∀ (pins:List (Addr×Obj)) (s:Shared) (σ:St) (H:Hp) (v:V) (u:Value) (Q:St->Hp->Prop),Inv X pins σ H s->RelV v u->t v σ H Q ->
  wpAny (model X.prog X.w) X.A (assign target X.env u) (fun _ s'=>∃ σ' H',Inv X pins σ' H' s'/\Q σ' H') X.xe s
def PGs (X:Cx) (ts:List Expr) (t:TGs):Prop :=
 ∀ (pins:List (Addr×Obj)) (s:Shared) (σ:St) (H:Hp) (vs:List V) (us:List Value) (Q:St->Hp->Prop),Inv X pins σ H s->Vals vs us->t vs σ H Q ->
  wpAny (model X.prog X.w) X.A (assignInOrder ((assignEach ts X.env).map (·.2)) us) (fun _ s'=>∃ σ' H',Inv X pins σ' H' s'/\Q σ' H') X.xe s
section
variable {X:Cx} {pos:Pos}
def TN (i:Nat):TG:=fun v σ H Q=>Q (σ.set i (some v)) H
##pG {i:Nat} {x:Str} (hN:X.N.Nodup) (hi:X.N[i]? = some x) (hx:Loc X.env.scope x) (hf:X.fn x=true\/X.env.scope.names.lookup x=some .local:=by first | !.inl rfl | !.inr rfl | assumption):PG X (.Name x pos) (TN i):=by
 intro pins s σ H v u Q I r h
 !wpAny_assign_Name (sC I hN hi hx r (fun s' I'=>⟨_,H,I',h⟩) hf)
def aIk:TGs:=fun vs σ H Q=>vs=[]/\Q σ H
def aEU (t:TG) (u:TGs):TGs:=fun vs σ H Q=>∃ v r,vs=v::r/\t v σ H fun σ' H'=>u r σ' H' Q
##MA:PGs X [] aIk:=by
 intro pins s σ H vs us Q I r h
 &⟨e,h⟩:=h
 subst e
 cases r
 !assignInOrder_nil ⟨σ,H,I,h⟩
##sE {e:Expr} {es:List Expr} {t:TG} {u:TGs} (h1:PG X e t) (h2:PGs X es u)
  (hs:(assignEach (e::es) X.env).map (·.2)=assign e X.env::(assignEach es X.env).map (·.2):=by rfl):PGs X (e::es) (aEU t u):=by
 intro pins s σ H vs us Q I r h
 &⟨v,vr,e1,h⟩:=h
 subst e1
 cases r with
 | cons r rr =>
  rw [hs]
  @assignInOrder_cons (dN (h1 pins s σ H _ _ _ I r h) fun _ s1 ⟨σ1,H1,I1,q1⟩=>?_)
  !h2 pins s1 σ1 H1 _ _ Q I1 rr q1
def aIl (K:PySem.W.Frag) (n:Nat) (t:TGs):TG:=fun v σ H Q=>∃ a xs,v=.ref a/\gA K H a xs/\xs.length=n/\t xs σ H Q
##TQ {es:List Expr} {k:Nat} {t:TGs} {n:Nat} (hc:X.calm=true) (h:PGs X es t)
  (hn:(assignEach es X.env).length=n:=by rfl) (hst:(assignEach es X.env).findIdx? (·.1)=none:=by rfl):PG X (.Tuple es k pos) (aIl X.K n t):=by
 intro pins s σ H v u Q I r hw
 &⟨a,xs,e1,hq,hl,hw⟩:=hw
 subst e1
 cases r
 &⟨its,rv,ht,hz⟩:=I.tuple hq
 @assign_Tuple_tuple (I.ok.hd hc) ht (by simp [hn,<- hl,rv.length]) hst fun h' hx=>?_
 have I1:Inv X pins σ H { s with heap:=h' }:=I.kept (t':=s.toks) fun b o e=>hx b o (Nat.ne_of_lt (Heap.lt_size e)) e
 !h pins _ σ H xs _ Q I1 (¥rv) hw
def aBq (te:TE) (g:TG):TS:=fun D σ H=>te σ H fun x H1=>g x σ H1 D.nx
##aBr {tg e:Expr} {te:TE} {g:TG} (he:PE X e te) (hg:PG X tg g) (hs:swapsWithSole [tg] e pos.line X.env=pure false:=by rfl) (hw:swappedStores [tg] e X.env=pure none:=by rfl)
  (h1:(assignEach [tg] X.env).map (·.2)=[assign tg X.env]:=by rfl):PS X (.Assign [tg] e pos) (aBq te g):=by
 intro pins s σ H D I h
 @wpAny_Assign_stores (dN (he pins s σ H _ I h) fun v s1 ⟨x,H1,I1,r1,q1⟩=>?_) hs hw
 rw [h1]
 !dN (hg pins s1 σ H1 x v _ I1 r1 q1) fun _ s2 q=>q
##oG {i:Nat} {x:Str} {e:Expr} {te:TE} {pos':Pos} (hN:X.N.Nodup) (hi:X.N[i]? = some x) (hx:Loc X.env.scope x) (he:PE X e te) (hs:swapsWith e (some (.Name x pos')) pos.line X.env=pure false:=by rfl) (hf:X.fn x=true\/X.env.scope.names.lookup x=some .local:=by first | !.inl rfl | !.inr rfl | assumption) :
  PS X (.Assign [.Name x pos'] e pos) (aBq te (TN i)):=by
 intro pins s σ H D I h
 @wpAny_Assign_Name (dN (he pins s σ H _ I h) fun v s1 ⟨y,H1,I1,r1,q1⟩=>?_) hs
 !sC I1 hN hi hx r1 (fun s2 I2=>⟨_,H1,I2,q1⟩) hf
def aIm (i j:Nat) (ta:TA):TS:=fun D σ H=>ta σ H fun vs H1=>∃ v w,vs=[v,w]/\D.nx ((σ.set i (some v)).set j (some w)) H1
##aBs {i j:Nat} {x y:Str} {a b:Expr} {ta:TA} {px py pt:Pos} {kt k2 N8} (hc:X.calm=true) (hN:X.N.Nodup) (hi:X.N[i]? = some x) (hj:X.N[j]? = some y) (hij:i≠j)
  (hx:X.env.scope.names.lookup x=some .local) (hy:X.env.scope.names.lookup y=some .local) (ha:PA X [a,b] ta)
  (hw:swappedStores [.Tuple [.Name x px,.Name y py] kt pt] (.Tuple [a,b] k2 N8) X.env=pure (some [x,y]))
  (hs:swapsWithSole [.Tuple [.Name x px,.Name y py] kt pt] (.Tuple [a,b] k2 N8) pos.line X.env=pure false:=by rfl) :
  PS X (.Assign [.Tuple [.Name x px,.Name y py] kt pt] (.Tuple [a,b] k2 N8) pos) (aIm i j ta):=by
 intro pins s σ H D I h
 rw [exec_Assign_arm]
 @wpAny_bind (wpAny_standAt ?_)
 rw [hs]
 @wpAny_bind (wpAny_pure ?_)
 rw [if_neg §]
 @wpAny_bind (Tuple_ (dN (ha _ pins s σ H _ I h) fun us s1 ⟨vs,H1,I1,r1,q1⟩=>?_))
 &⟨v,w,e1,q1⟩:=q1
 subst e1
 obtain ⟨u1,u2,rfl,rv,w8⟩:∃ u1 u2,us=[u1,u2]/\RelV v u1/\RelV w u2:=by
  cases r1 with
  | cons p q =>
   cases q with
   | cons p' q' =>
    cases q'
    !⟨_,_,rfl,p,p'⟩
 @wpAny_newObj_type ?_ (by show 2<=sizeLine; decide)
 have I2:Inv X pins σ H1 { s1 with heap:=s1.heap.push { cls:=.type "tuple",data:=.seq [u1,u2].toArray } }:=I1.kept (t':=s1.toks) fun b o e=>Heap.get?_push_of_some _ e
 rw [hw]
 @wpAny_bind (wpAny_pure ?_)
 show wpAny (model X.prog X.w) X.A (do rule "assign.swapped-stores"; let items <- unpackItems (.ref s1.heap.objs.size) 2 none; assignInOrder [fun v=>bindName X.env y v,fun v=>bindName X.env x v] items.reverse; pure Flow.next) _ _ _
 @wpAny_bind (wpAny_rule (wpAny_bind (unpackItems_tuple (items:=#[u1,u2]) (I.ok.hd hc) (IsTup.new s1.heap _) fun h' hx'=>?_)))
 have I3:=I2.kept (h':=h') (t':=s1.toks) fun b o e=>hx' b o (Nat.ne_of_lt (Heap.lt_size e)) e
 show wpAny _ _ (assignInOrder [fun v=>bindName X.env y v,fun v=>bindName X.env x v] [u2,u1] >>= fun _=>pure Flow.next) _ _ _
 @wpAny_bind (assignInOrder_cons (wpAny_bindName (sC I3 hN hj (.inl hy) w8 (fun s2 I4=>?_) (.inr hy))))
 @assignInOrder_cons (wpAny_bindName (sC I4 hN hi (.inl hx) rv (fun s3 I5=>assignInOrder_nil (wpAny_pure ?_)) (.inr hx)))
 rw [List.set_comm _ _ (Ne.symm hij)] at I5
 !⟨_,H1,I5,q1⟩
end
section
variable {X:Cx} {pos:Pos}
def aBt (c:TT) (tb:TS):TS:=fun D σ H=>∃ W:Nat->St->Hp->Prop,(∃ m,W m σ H) /\ ∀ m σ H,W m σ H ->
 c σ H fun b H1=>if b=true then ∃ N:St->Hp->Prop,(∀ σ' H',N σ' H' -> ∃ m',m'<m/\W m' σ' H')/\tb { D with nx:=N,ct:=N,bk:=D.nx } σ H1 else D.nx σ H1
##TR {c:Expr} {body:List Stmt} {tc:TT} {tb:TS} (hp:PassesOwn (model X.prog X.w) X.A X.env X.xe) (hc:PT X c tc) (hb:HM X body tb):PS X (.While c body [] pos) (aBt tc tb):=by
 intro pins s σ H D I h
 &⟨W,⟨m0,w0⟩,turn⟩:=h
 @wpAny_While (codeAny_whileLoop (fun n s'=>∃ σ' H',Inv X pins σ' H' s'/\W n σ' H') ?_ m0 ⟨σ,H,I,w0⟩)
 rintro n s1 ⟨σ1,H1,I1,w1⟩
 @wpAny_passesOwn hp (dN (hc pins s1 σ1 H1 _ I1 (turn n σ1 H1 w1)) fun b s2 ⟨H2,I2,q2⟩=>?_)
 cases b with
 | true =>
  &⟨N,hN,q2⟩:=q2
  rw [if_pos rfl]
  @wpAny_passesOwn hp (dN (hb pins s2 σ1 H2 _ I2 q2) fun f s3 q3=>?_)
  cases f with
  | next =>
   &⟨σ3,H3,I3,n3⟩:=q3
   &⟨m',hm,w3⟩:=hN σ3 H3 n3
   !⟨m',hm,σ3,H3,I3,w3⟩
  | cont =>
   &⟨σ3,H3,I3,n3⟩:=q3
   &⟨m',hm,w3⟩:=hN σ3 H3 n3
   !⟨m',hm,σ3,H3,I3,w3⟩
  | brk=>!q3
  | ret v=>!q3
 | false =>
  rw [if_neg Bool.false_ne_true]
  !wpAny_execs_nil ⟨σ1,H2,I2,q2⟩
end
structure It where
 go:Nat->Hp->Prop
 yld:Nat->Hp->V->Hp->Prop
 stop:Nat->Hp->Prop
def qQ (X:Cx) (pins:List (Addr×Obj)) (H:Hp) (b:Addr):Prop :=
 H b=none/\b≠X.env.locals/\b∉X.fs/\(b∈X.ex\/X.s₀.heap.objs.size<=b)/\(∀ x c,X.env.cells.lookup x=some c->c≠b) /\ ∀ p∈X.pn++pins,p.1≠b
##Inv.IV {X:Cx} {pins:List (Addr×Obj)} {σ:St} {H H':Hp} {s:Shared} {b:Addr} (I:Inv X pins σ H s) (hb:s.heap.objs.size<=b) (hn:H' b=none):qQ X pins H' b:=by
 @⟨hn,Nat.ne_of_gt (Nat.lt_of_lt_of_le I.lt hb),I.aIc hb,.inr (Nat.le_trans I.sz hb),fun x c e z=>?_,fun p hp z=>?_⟩
 ·&⟨v,q⟩:=I.cell x c e
  !absurd (Nat.lt_of_lt_of_le q.lt (by rw [z]; !hb)) (Nat.lt_irrefl _)
 ·!absurd (Nat.lt_of_lt_of_le (Heap.lt_size (I.pin p hp).1) (by rw [z]; !hb)) (Nat.lt_irrefl _)
structure Turn (P:Program) (w:World) (K:PySem.W.Frag) (tg:Expr) (J:It) (fp:List Addr) (it:Addr) (tn:Nat->Heap->Prop):Prop where
 mem:it∈fp
 obj:∀ i h,tn i h -> ∀ b∈fp,∃ o,h.get? b=some o /\ ∀ v,o.data≠.cell v
 keep:∀ i h h',tn i h->(∀ b∈fp,∀ o,h.get? b=some o->h'.get? b=some o)->tn i h'
 item:∀ (X:Cx),X.prog=P->X.w=w->X.K=K->X.calm=true -> ∀ (i:Nat) (pins:List (Addr×Obj)) (s:Shared) (σ:St) (H:Hp) (E:Value->Shared->Prop),Inv X pins σ H s->(∀ b∈fp,qQ X pins H b)->tn i s.heap->J.go i H ->
  wpAny (model P w) X.A (pyNext (.ref it)) (fun r s1=>∃ u,r=some u /\
   wpAny (model P w) X.A (letOwnedTupleGo tg (.ref it) u) (fun _ s2=>∃ x H',Inv X pins σ H' s2/\RelV x u/\J.yld i H x H'/\tn (i+1) s2.heap /\ ∀ b∈fp,H' b=none) E s1) E s
 done:∀ (X:Cx),X.prog=P->X.w=w->X.K=K->X.calm=true -> ∀ (i:Nat) (pins:List (Addr×Obj)) (s:Shared) (σ:St) (H:Hp) (E:Value->Shared->Prop),Inv X pins σ H s->(∀ b∈fp,qQ X pins H b)->tn i s.heap->J.stop i H ->
  wpAny (model P w) X.A (pyNext (.ref it)) (fun r s1=>r=none/\Inv X pins σ H s1) E s
 self:∀ (A:Around) (i:Nat) (s:Shared) (Q:Value->Shared->Prop) (E:Value->Shared->Prop),tn i s.heap->Q (.ref it) s->wpAny (model P w) A (pyIter (.ref it)) Q E s
abbrev TI:=St->Hp->(It->Hp->Prop)->Prop
def PIE (X:Cx) (pins:List (Addr×Obj)) (σ:St) (tg:Expr) (R:It->Hp->Prop) (itv:Value) (s2:Shared):Prop :=
 ∃ (it:Addr) (fp:List Addr) (tn:Nat->Heap->Prop) (J:It) (H':Hp),itv=.ref it/\Inv X pins σ H' s2/\Turn X.prog X.w X.K tg J fp it tn/\tn 0 s2.heap/\(∀ b∈fp,qQ X pins H' b)/\R J H'
def PI (X:Cx) (tg iter:Expr) (wi:TI):Prop :=
 ∀ (pins:List (Addr×Obj)) (s:Shared) (σ:St) (H:Hp) (R:It->Hp->Prop),Inv X pins σ H s->wi σ H R ->
  wpAny (model X.prog X.w) X.A (eval iter X.env) (fun v s1=>wpAny (model X.prog X.w) X.A (pyIter v) (PIE X pins σ tg R) X.xe s1) X.xe s
##MB {M:Model} {A:Around} {E:Value->Shared->Prop} {s:Shared} {tg:Expr} {it:Addr} {u:Value} {o:Obj} {n:String} {vs:Array Value} {Q:Unit->Shared->Prop} (ho:s.heap.get? it=some o) (hc:o.cls=.type n) (hd:o.data=.fields vs)
  (hn:["enumerate", "zip", "dict_itemiterator", "dict_reverseitemiterator", "odict_iterator", "itertools.zip_longest", "itertools.pairwise"].contains n=false) (hQ:Q () s):wpAny M A (letOwnedTupleGo tg (.ref it) u) Q E s:=by
 ~letOwnedTupleGo
 cases tg<;>first
  | !wpAny_pure hQ
  | (cases u<;>first
    | !wpAny_pure hQ
    | (@wpAny_bind (wpAny_load ho ?_)
       rw [hc,hd]
       show wpAny M A (if (["enumerate", "zip", "dict_itemiterator", "dict_reverseitemiterator", "odict_iterator", "itertools.zip_longest", "itertools.pairwise"].contains n&&vs[0]? == some (rawInt _))=true then _ else _) Q E s
       rw [if_neg (by intro h; rw [hn,Bool.false_and] at h; cases h)]
       !wpAny_pure hQ))
def Itl (K:PySem.W.Frag) (a:Addr):It :=
 ⟨fun i H=>∃ xs x,gH K H a xs/\xs[i]? = some x,fun i H x H'=>H' = H /\ ∀ xs,gH K H a xs->xs[i]? = some x,fun i H=>∃ xs,gH K H a xs/\xs.length<=i⟩
def Itt (K:PySem.W.Frag) (a:Addr):It :=
 ⟨fun i H=>∃ xs x,gA K H a xs/\xs[i]? = some x,fun i H x H'=>H' = H /\ ∀ xs,gA K H a xs->xs[i]? = some x,fun i H=>∃ xs,gA K H a xs/\xs.length<=i⟩
def Itr (lo:Int) (n:Nat):It:=⟨fun i _=>i<n,fun i H x H'=>H' = H/\x=.int (lo+i),fun i _=>n<=i⟩
##N9 {P:Program} {w:World} {K:PySem.W.Frag} {tg:Expr} (a it:Addr):Turn P w K tg (Itl K a) [it] it (fun i h=>h.IsListIter it a i) where
 mem:=by simp
 obj:=fun i h st b hb=>by
  have e:b=it:=¥hb
  subst e
  &⟨o,e,c,d⟩:=st
  !⟨o,e,fun v z=>by rw [d] at z; cases z⟩
 keep:=fun i h h' st k=>st.at fun o e=>k it (by simp) o e
 item:=by
  intro X hP hw hK hc i pins s σ H E I hf st hg
  subst hP hw hK
  &⟨xs,x,hq,hx⟩:=hg
  &⟨its,rv,p,hz⟩:=I.list hq
  &⟨u,hu,ru⟩:=rv.get hx
  &⟨f0,f1,f2,f3,f4,f5⟩:=hf it (by simp)
  @wpAny_pyNext_list_item st p.isList (x:=u) (¥hu) fun h' st' sb=>?_
  have I1:Inv X pins σ H { s with heap:=h' }:=I.turned (t':=s.toks) (fun b o hb e=>(sb.2 b hb).trans e) f0 f1 f3 f4 f5
  &⟨o,e,c,d⟩:=id st'
  !⟨u,rfl,MB (s:={ s with heap:=h' }) e c d § ⟨x,H,I1,ru,⟨rfl,fun ys hy=>by rw [I.sD hy hq]; !hx⟩,st',fun b hb=>(hf b hb).1⟩⟩
 done:=by
  intro X hP hw hK hc i pins s σ H E I hf st hg
  subst hP hw hK
  &⟨xs,hq,hx⟩:=hg
  &⟨its,rv,p,hz⟩:=I.list hq
  &⟨f0,f1,f2,f3,f4,f5⟩:=hf it (by simp)
  have hl:=rv.length
  !wpAny_pyNext_list_end (I.ok.hd hc) st p.isList (by simp; omega) fun h' eb=>⟨rfl,I.turned (t':=s.toks) (fun b o hb e=>eb b o hb e) f0 f1 f3 f4 f5⟩
 self:=fun _ _ _ _ _ st h=>wpAny_pyIter_listiter st h
##IW {P:Program} {w:World} {K:PySem.W.Frag} {tg:Expr} (a it:Addr):Turn P w K tg (Itt K a) [it] it (fun i h=>h.IsTupleIter it a i) where
 mem:=by simp
 obj:=fun i h st b hb=>by
  have e:b=it:=¥hb
  subst e
  &⟨o,e,c,d⟩:=st
  !⟨o,e,fun v z=>by rw [d] at z; cases z⟩
 keep:=fun i h h' st k=>st.at fun o e=>k it (by simp) o e
 item:=by
  intro X hP hw hK hc i pins s σ H E I hf st hg
  subst hP hw hK
  &⟨xs,x,hq,hx⟩:=hg
  &⟨its,rv,p,hz⟩:=I.tuple hq
  &⟨u,hu,ru⟩:=rv.get hx
  &⟨f0,f1,f2,f3,f4,f5⟩:=hf it (by simp)
  @wpAny_pyNext_tuple_item st (show s.heap.IsTuple a its.toArray from p) (x:=u) (¥hu) fun h' st' sb=>?_
  have I1:Inv X pins σ H { s with heap:=h' }:=I.turned (t':=s.toks) (fun b o hb e=>(sb.2 b hb).trans e) f0 f1 f3 f4 f5
  &⟨o,e,c,d⟩:=id st'
  !⟨u,rfl,MB (s:={ s with heap:=h' }) e c d § ⟨x,H,I1,ru,⟨rfl,fun ys hy=>by rw [I.mJ hy hq]; !hx⟩,st',fun b hb=>(hf b hb).1⟩⟩
 done:=by
  intro X hP hw hK hc i pins s σ H E I hf st hg
  subst hP hw hK
  &⟨xs,hq,hx⟩:=hg
  &⟨its,rv,p,hz⟩:=I.tuple hq
  &⟨f0,f1,f2,f3,f4,f5⟩:=hf it (by simp)
  have hl:=rv.length
  !wpAny_pyNext_tuple_end (I.ok.hd hc) st (show s.heap.IsTuple a its.toArray from p) (by simp; omega) fun h' eb=>⟨rfl,I.turned (t':=s.toks) (fun b o hb e=>eb b o hb e) f0 f1 f3 f4 f5⟩
 self:=fun _ _ _ _ _ st h=>wpAny_pyIter_tupleiter st h
##IX {P:Program} {w:World} {K:PySem.W.Frag} {tg:Expr} (it:Addr) (lo:Int) (n:Nat):Turn P w K tg (Itr lo n) [it] it (fun i h=>IsRangeIter h it (lo+(i:Nat)*1) ((n:Int) - (i:Nat)) 1) where
 mem:=by simp
 obj:=fun i h st b hb=>by
  have e:b=it:=¥hb
  subst e
  !⟨_,st,fun v z=>by
   have z':Data.fields _=Data.cell v:=z
   cases z'⟩
 keep:=fun i h h' st k=>k it (by simp) _ st
 item:=by
  intro X hP hw hK hc i pins s σ H E I hf st hg
  subst hP hw hK
  &⟨f0,f1,f2,f3,f4,f5⟩:=hf it (by simp)
  have W:=Walks.range (prog:=X.prog) (w:=X.w) (I.ok.hd hc) it lo 1 n
  @W.item i s _ _ hg st fun v h' tk hv st' kk=>?_
  &⟨t,rfl⟩:=hv
  have I1:Inv X pins σ H { s with heap:=h',toks:=tk }:=I.turned (fun b o hb e=>kk b o (¥hb) e) f0 f1 f3 f4 f5
  @⟨_,rfl,MB (s:={ s with heap:=h',toks:=tk }) (n := "range_iterator") st' rfl rfl § ⟨.int (lo+i),H,I1,⟨t,?_⟩,⟨rfl,rfl⟩,st',fun b hb=>(hf b hb).1⟩⟩
  rw [Int.mul_one]
 done:=by
  intro X hP hw hK hc i pins s σ H E I hf st hg
  subst hP hw hK
  &⟨f0,f1,f2,f3,f4,f5⟩:=hf it (by simp)
  !wpAny_pyNext_range_end (I.ok.hd hc) st (by have:n<=i:=hg; omega) fun h' eb=>⟨rfl,I.turned (t':=s.toks) (fun b o hb e=>eb b o hb e) f0 f1 f3 f4 f5⟩
 self:=fun _ _ _ _ _ st h=>wpAny_pyIter_rangeiter st h
end L2
namespace L2
open PySem PySem.Spec PyProof.Rows
section
variable {X:Cx} {tg:Expr}
##FR {pins:List (Addr×Obj)} {σ:St} {H:Hp} {s:Shared} {R:It->Hp->Prop} {E:Value->Shared->Prop} {lo hi:Int} {t u v:Tok} {tk:Nat} (I:Inv X pins σ H s) (h1:-(2 ^ 62)<=lo) (h2:lo<2 ^ 62) (h3:-(2 ^ 62)<=hi) (h4:hi<2 ^ 62)
  (q:R (Itr lo (hi - lo).toNat) H):wpAny (model X.prog X.w) X.A (pyIter (.ref s.heap.objs.size)) (PIE X pins σ tg R) E { s with heap:=s.heap.push { cls:=.type "range",data:=.fields #[.int lo t,.int hi u,.int 1 v] },toks:=tk }:=by
 @wpAny_pyIter_range (IsRange.new ..) (small_one h1 h2 h3 h4) ?_
 have I1:Inv X pins σ H { s with heap:=s.heap.push { cls:=.type "range",data:=.fields #[.int lo t,.int hi u,.int 1 v] },toks:=tk }:=I.kept fun b o e=>Heap.get?_push_of_some _ e
 @⟨(s.heap.push { cls:=.type "range",data:=.fields #[.int lo t,.int hi u,.int 1 v] }).objs.size,[(s.heap.push { cls:=.type "range",data:=.fields #[.int lo t,.int hi u,.int 1 v] }).objs.size],_,_,H,rfl,
  I1.kept (t':=tk) fun b o e=>Heap.get?_push_of_some _ e,IX _ lo (hi - lo).toNat,?_,fun b hb=>?_,q⟩
 ·have e1:lo+((0:Nat):Int)*1=lo:=by simp
  have e2:(((hi - lo).toNat:Nat):Int) - ((0:Nat):Int)=Builtin.Range.rangeSize lo hi 1:=by rw [rangeSize_one]; split<;>omega
  show IsRangeIter _ _ (lo+((0:Nat):Int)*1) ((((hi - lo).toNat:Nat):Int) - ((0:Nat):Int)) 1
  rw [e1,e2]
  !Heap.get?_push_size _ rfl
 ·have e:b=(s.heap.push { cls:=.type "range",data:=.fields #[.int lo t,.int hi u,.int 1 v] }).objs.size:=¥hb
  subst e
  !I1.IV (Nat.le_refl _) (I1.hok.fresh (Nat.le_refl _))
def aEW (ta:TA):TI:=fun σ H R=>ta σ H fun vs H1=>∃ j:Int,vs=[.int j] /\ -(2 ^ 62)<=j/\j<2 ^ 62/\R (Itr 0 j.toNat) H1
def aEX (ta:TA):TI:=fun σ H R=>ta σ H fun vs H1=>∃ i j:Int,vs=[.int i,.int j]/\(-(2 ^ 62)<=i/\i<2 ^ 62 /\ -(2 ^ 62)<=j/\j<2 ^ 62)/\R (Itr i (j - i).toNat) H1
##OA {a:Expr} {ta:TA} {p pos:Pos} (hg:Gl X "range") (hm:X.mg "range" = none) (ha:PA X [a] ta) (hs:starEach [a] X.env=[(false,eval a X.env)]:=by rfl):PI X tg (.Call (.Name "range" p) [a] [] pos) (aEW ta):=by
 intro pins s σ H R I h
 @Call_ (qP I hg hm boot_range (PyProof.Rows.callWith_type1 (dN (ha pos pins s σ H _ I h) fun us s1 ⟨vs,H1,I1,r1,q1⟩=>?_) hs rfl))
 &⟨j,e,q1,q2,q⟩:=q1
 subst e
 cases r1 with
 | cons r rr =>
  cases rr
  &⟨t,rfl⟩:=r
  !call_range_1 (FR I1 ° ° q1 q2 (¥q))
##OB {a b:Expr} {ta:TA} {p pos:Pos} (hg:Gl X "range") (hm:X.mg "range" = none) (ha:PA X [a,b] ta) (hs:starEach [a,b] X.env=[(false,eval a X.env),(false,eval b X.env)]:=by rfl) (hs2:starEach [b] X.env=[(false,eval b X.env)]:=by rfl) :
  PI X tg (.Call (.Name "range" p) [a,b] [] pos) (aEX ta):=by
 intro pins s σ H R I h
 @Call_ (qP I hg hm boot_range (PyProof.Rows.callWith_type1 (dN (ha pos pins s σ H _ I h) fun us s1 ⟨vs,H1,I1,r1,q1⟩=>?_) (by rw [hs,hs2]) (by rw [hs2]; rfl)))
 &⟨i,j,e,⟨q1,q2,q3,q4⟩,q⟩:=q1
 subst e
 cases r1 with
 | cons r rr =>
  cases rr with
  | cons r' rr =>
   cases rr
   &⟨t,rfl⟩:=r
   &⟨t',rfl⟩:=r'
   !call_range_2 (FR I1 q1 q2 q3 q4 q)
def aIp (wi:TI) (g:TG) (tb:TS):TS:=fun D σ H=>wi σ H fun J H1=>∃ W:Nat->Nat->St->Hp->Prop,(∃ m,W 0 m σ H1) /\ ∀ i m σ H,W i m σ H ->
 (J.stop i H/\D.nx σ H)\/(J.go i H /\ ∃ N:St->Hp->Prop,(∀ σ' H',N σ' H' -> ∃ m',m'<m/\W (i+1) m' σ' H') /\ ∀ x H',J.yld i H x H'->g x σ H' fun σ2 H2=>tb { D with nx:=N,ct:=N,bk:=D.nx } σ2 H2)
def xL (fp:List Addr) (h:Heap):List (Addr×Obj):=fp.filterMap fun b=>(h.get? b).map fun o=>(b,o)
##nC {fp:List Addr} {h:Heap} {b:Addr} {o:Obj} (hb:b∈fp) (e:h.get? b=some o):(b,o)∈xL fp h:=List.mem_filterMap.mpr ⟨b,hb,by rw [e]; rfl⟩
##OC {fp:List Addr} {h:Heap} {p:Addr×Obj} (hp:p∈xL fp h):p.1∈fp/\h.get? p.1=some p.2:=by
 &⟨b,hb,e⟩:=List.mem_filterMap.mp hp
 cases q:h.get? b with
 | none=>rw [q] at e; cases e
 | some o =>
  rw [q] at e
  have e':(b,o)=p:=Option.some.inj e
  subst e'
  !⟨hb,q⟩
##Inv.pinned {pins:List (Addr×Obj)} {σ:St} {H:Hp} {s:Shared} {fp:List Addr} (I:Inv X pins σ H s) (hf:∀ b∈fp,qQ X pins H b) (ho:∀ b∈fp,∃ o,s.heap.get? b=some o /\ ∀ v,o.data≠.cell v):Inv X (pins++xL fp s.heap) σ H s :=
 I.LY fun p hp=>(List.mem_append.mp hp).elim (fun z=>I.pin p (List.mem_append_right _ z)) fun z=>by
  &⟨hb,e⟩:=OC z
  &⟨f0,f1,f2,_⟩:=hf p.1 hb
  &⟨o,e',d⟩:=ho p.1 hb
  rw [e] at e'; cases e'
  !⟨e,f0,f1,f2,d⟩
##Inv.sF {pins pl:List (Addr×Obj)} {σ:St} {H:Hp} {s:Shared} (I:Inv X (pins++pl) σ H s):Inv X pins σ H s:=I.LY fun p hp=>I.pin p (List.mem_append_right _ (List.mem_append_left _ hp))
##aBu {iter:Expr} {body:List Stmt} {wi:TI} {g:TG} {tb:TS} {pos:Pos} (hp:PassesOwn (model X.prog X.w) X.A X.env X.xe) (hc:X.calm=true) (hi:PI X tg iter wi) (hg:PG X tg g) (hb:HM X body tb)
  (hs:∀ x,foldedSetIterable iter X.env x=pure x:=by intro _; rfl):PS X (.For tg iter body [] pos) (aIp wi g tb):=by
 intro pins s σ H D I h
 @wpAny_For (dN (hi pins s σ H _ I h) fun v s1 h1=>dN h1 fun itv s2 h2=>?_) hs
 &⟨it,fp,tn,J,H2,e,I2,T,st2,f2,W,⟨m0,w0⟩,turn⟩:=h2
 subst e
 -- what stays true of the iterator's objects through the loop
 have stat:∀ {H':Hp},(∀ b∈fp,H' b=none) -> ∀ b∈fp,qQ X pins H' b:=fun hn b hb=>⟨hn b hb,(f2 b hb).2⟩
 @codeAny_forLoop_any (fun n s'=>∃ i σ' H',Inv X pins σ' H' s'/\tn i s'.heap/\(∀ b∈fp,H' b=none)/\W i n σ' H') ?_ m0 ⟨0,σ,H2,I2,st2,fun b hb=>(f2 b hb).1,w0⟩
 rintro n s3 ⟨i,σ3,H3,I3,st3,fr3,w3⟩
 rcases turn i n σ3 H3 w3 with ⟨stop,qn⟩ | ⟨go,N,hN,step⟩
 ·@wpAny_passesOwn hp (dN (T.done X rfl rfl rfl hc i pins s3 σ3 H3 X.xe I3 (stat fr3) st3 stop) fun r s4 ⟨hr,I4⟩=>?_)
  subst hr
  !wpAny_execs_nil ⟨σ3,H3,I4,qn⟩
 ·@wpAny_passesOwn hp (dN (T.item X rfl rfl rfl hc i pins s3 σ3 H3 X.xe I3 (stat fr3) st3 go) fun r s4 ⟨u,hr,h4⟩=>?_)
  subst hr
  @wpAny_passesOwn hp (dN h4 fun _ s5 ⟨x,H5,I5,r5,y5,st5,fr5⟩=>?_)
  have I5':=I5.pinned (stat fr5) (T.obj _ _ st5)
  @wpAny_passesOwn hp (dN (hg _ s5 σ3 H5 x u _ I5' r5 (step x H5 y5)) fun _ s6 ⟨σ6,H6,I6,q6⟩=>?_)
  @wpAny_passesOwn hp (dN (hb _ s6 σ6 H6 _ I6 q6) fun f s7 q7=>?_)
  have again:∀ {σ7:St} {H7:Hp},Inv X (pins++xL fp s5.heap) σ7 H7 s7->N σ7 H7 -> ∃ m,m<n /\ ∃ i σ' H',Inv X pins σ' H' s7/\tn i s7.heap/\(∀ b∈fp,H' b=none)/\W i m σ' H':=fun {σ7 H7} I7 n7=>by
   &⟨m',hm,w7⟩:=hN σ7 H7 n7
   @⟨m',hm,i+1,σ7,H7,I7.sF,T.keep _ _ _ st5 fun b hb o e=>(I7.pin (b,o) (List.mem_append_right _ (List.mem_append_right _ (nC hb e)))).1,fun b hb=>?_,w7⟩
   &⟨o,e,d⟩:=T.obj _ _ st5 b hb
   !(I7.pin (b,o) (List.mem_append_right _ (List.mem_append_right _ (nC hb e)))).2.1
  cases f with
  | next=>&⟨σ7,H7,I7,n7⟩:=q7; !again I7 n7
  | cont=>&⟨σ7,H7,I7,n7⟩:=q7; !again I7 n7
  | brk=>&⟨σ7,H7,I7,q7⟩:=q7; !⟨σ7,H7,I7.sF,q7⟩
  | ret v=>&⟨x7,σ7,H7,I7,r7,q7⟩:=q7; !⟨x7,σ7,H7,I7.sF,r7,q7⟩
end
end L2
namespace L2
open PySem PySem.Spec PyProof.Rows
abbrev R2:=V->V->Hp->VK->Prop
def i6 (X:Cx) (f:Value->Value->Sem Value) (r:R2):Prop :=
 ∀ (pins:List (Addr×Obj)) (s:Shared) (σ:St) (H:Hp) (x y:V) (v u:Value) (Q:VK),Inv X pins σ H s->RelV x v->RelV y u->r x y H Q ->
  wpAny (model X.prog X.w) X.A (f v u) (EP X pins σ Q) X.xe s
def UnR (X:Cx) (f:Value->Sem Value) (r:V->Hp->VK->Prop):Prop :=
 ∀ (pins:List (Addr×Obj)) (s:Shared) (σ:St) (H:Hp) (x:V) (v:Value) (Q:VK),Inv X pins σ H s->RelV x v->r x H Q ->
  wpAny (model X.prog X.w) X.A (f v) (EP X pins σ Q) X.xe s
def jI (X:Cx) (f:Value) (r:List V->Hp->VK->Prop):Prop :=
 ∀ (pins:List (Addr×Obj)) (s:Shared) (σ:St) (H:Hp) (xs:List V) (us:List Value) (Q:VK),Inv X pins σ H s->Vals xs us->r xs H Q ->
  wpAny (model X.prog X.w) X.A (call f us) (EP X pins σ Q) X.xe s
def aIs (X:Cx) (r:V->Hp->(Bool->Hp->Prop)->Prop):Prop :=
 ∀ (pins:List (Addr×Obj)) (s:Shared) (σ:St) (H:Hp) (x:V) (v:Value) (Q:Bool->Hp->Prop),Inv X pins σ H s->RelV x v->r x H Q ->
  wpAny (model X.prog X.w) X.A (truthy v) (TP X pins σ Q) X.xe s
def tOp (r:R2) (ta tb:TE):TE:=fun σ H Q=>ta σ H fun x H1=>tb σ H1 fun y H2=>r x y H2 Q
def tUn (r:V->Hp->VK->Prop) (ta:TE):TE:=fun σ H Q=>ta σ H fun x H1=>r x H1 Q
def rI (C:Int->Int->Prop) (g:Int->Int->V):R2:=fun x y H Q=>∃ i j,x=.int i/\y=.int j/\C i j/\Q (g i j) H
def OD (g:Int->Int->V):R2:=fun x y H Q=>∃ i j,x=.int i/\y=.int j/\Q (g i j) H
def rU (g:Int->V):V->Hp->VK->Prop:=fun x H Q=>∃ i,x=.int i/\Q (g i) H
section
variable {X:Cx} {a b c:Expr} {ta tb tc:TE} {pos:Pos}
##aBv (ha:PE X a ta) (hb:PE X b tb) {pins:List (Addr×Obj)} {s:Shared} {σ:St} {H:Hp} {R:V->V->Hp->Prop} (I:Inv X pins σ H s)
  (h:ta σ H fun x H1=>tb σ H1 fun y H2=>R x y H2) {Q:Value->Shared->Prop} {f:Value->Value->Sem Value}
  (hf:∀ v u s2 x y H2,Inv X pins σ H2 s2->RelV x v->RelV y u->R x y H2->wpAny (model X.prog X.w) X.A (f v u) Q X.xe s2) :
  wpAny (model X.prog X.w) X.A (eval a X.env) (fun v s₁=>wpAny (model X.prog X.w) X.A (eval b X.env) (fun u s₂=>wpAny (model X.prog X.w) X.A (f v u) Q X.xe s₂) X.xe s₁) X.xe s:=by
 @dN (ha pins s σ H _ I h) fun v s1 hq1=>?_
 &⟨x,H1,I1,r1,q1⟩:=hq1
 @dN (hb pins s1 σ H1 _ I1 q1) fun u s2 hq2=>?_
 &⟨y,H2,I2,r2,q2⟩:=hq2
 !hf v u s2 x y H2 I2 r1 r2 q2
##aA4 {op:Operator} {r:R2} (ho:i6 X (binaryOp op) r) (ha:PE X a ta) (hb:PE X b tb):PE X (.BinOp a op b pos) (tOp r ta tb):=by
 intro pins s σ H Q I h
 !wpAny_BinOp (aBv ha hb I h fun v u s2 x y H2 I2 rx ry q=>ho pins s2 σ H2 x y v u Q I2 rx ry q)
##aE0 {op:UnaryOp} {r:V->Hp->VK->Prop} (ho:UnR X (unaryOp op) r) (ha:PE X a ta):PE X (.UnaryOp op a pos) (tUn r ta):=by
 intro pins s σ H Q I h
 !UnaryOp_ (dN (ha pins s σ H _ I h) fun v s1 ⟨x,H1,I1,r1,q1⟩=>ho pins s1 σ H1 x v Q I1 r1 q1)
##opI {f:Value->Value->Sem Value} {C:Int->Int->Prop} {g:Int->Int->Int}
  (rule:∀ (i j:Int) (t u:Tok) (s:Shared) (Q:Value->Shared->Prop) (E:Value->Shared->Prop),C i j->Q (.int (g i j) s.toks) { s with toks:=s.toks+1 }->wpAny (model X.prog X.w) X.A (f (.int i t) (.int j u)) Q E s) :
  i6 X f (rI C fun i j=>.int (g i j)):=by
 intro pins s σ H x y v u Q I rx ry h
 &⟨i,j,rfl,rfl,hc,q⟩:=h
 &⟨t,rfl⟩:=rx
 &⟨t',rfl⟩:=ry
 !rule i j t t' s _ _ hc ⟨.int (g i j),H,I.tok _,⟨_,rfl⟩,q⟩
##aE1 {f:Value->Value->Sem Value} {g:Int->Int->Int}
  (rule:∀ (i j:Int) (t u:Tok) (s:Shared) (Q:Value->Shared->Prop) (E:Value->Shared->Prop),Q (.int (g i j) s.toks) { s with toks:=s.toks+1 }->wpAny (model X.prog X.w) X.A (f (.int i t) (.int j u)) Q E s) :
  i6 X f (OD fun i j=>.int (g i j)):=by
 intro pins s σ H x y v u Q I rx ry h
 &⟨i,j,rfl,rfl,q⟩:=h
 &⟨t,rfl⟩:=rx
 &⟨t',rfl⟩:=ry
 !rule i j t t' s _ _ ⟨.int (g i j),H,I.tok _,⟨_,rfl⟩,q⟩
##YU {f:Value->Value->Sem Value} {g:Int->Int->Bool}
  (rule:∀ (i j:Int) (t u:Tok) (s:Shared) (Q:Value->Shared->Prop) (E:Value->Shared->Prop),Q (.bool (g i j)) s->wpAny (model X.prog X.w) X.A (f (.int i t) (.int j u)) Q E s) :
  i6 X f (OD fun i j=>.bl (g i j)):=by
 intro pins s σ H x y v u Q I rx ry h
 &⟨i,j,rfl,rfl,q⟩:=h
 &⟨t,rfl⟩:=rx
 &⟨t',rfl⟩:=ry
 !rule i j t t' s _ _ ⟨.bl (g i j),H,I,rfl,q⟩
def aE2 (i j:Int):Prop:=0<j/\j<1073741824
def aBw (i j:Int):Prop:=0<=j/\j<=1000000/\i.natAbs<2 ^ 64
def YV (i j:Int):Prop:=(-(2 ^ 64)<i/\i<2 ^ 64)\/(-(2 ^ 64)<j/\j<2 ^ 64)
##YV.ok {i j:Int} (h:YV i j):IntMulOk i j:=by
 rcases h with ⟨h1,h2⟩ | ⟨h1,h2⟩
 ·!.of_left (intBits_le_64 h1 h2)
 ·!.of_right (intBits_le_64 h1 h2)
##IY (k:Nat):(0:Int)<=2 ^ k:=by
 rw [two_pow_cast]
 !Int.natCast_nonneg _
##aBx:i6 X (binaryOp .Add) (OD fun i j=>.int (i+j)):=aE1 fun _ _ _ _ _ _ _ q=>add_int q
##aBy:i6 X (binaryOp .Sub) (OD fun i j=>.int (i - j)):=aE1 fun _ _ _ _ _ _ _ q=>sub_int q
##YW:i6 X (binaryOp .FloorDiv) (rI aE2 fun i j=>.int (i / j)):=opI fun i j _ _ _ _ _ hc q=>by
 have h1:(0:Int)<j:=hc.1
 have h2:j<1073741824:=hc.2
 !floordiv_int ° (by rw [Int.fdiv_eq_ediv_of_nonneg i °]; !q) (.inl (PyProof.noPylong_small °))
##aBz:i6 X (binaryOp .Mod) (rI (fun _ j=>0<j) fun i j=>.int (i % j)):=opI fun i j _ _ _ _ _ hc q=>by
 have h1:(0:Int)<j:=hc
 !mod_int' ° (by rw [Int.fmod_eq_emod_of_nonneg i °]; !q)
##aCA:i6 X (binaryOp .Pow) (rI aBw fun i j=>.int (i ^ j.toNat)):=opI fun _ _ _ _ _ _ _ hc q=>pow_int_small hc.1 hc.2.1 hc.2.2 q
##aCB:i6 X (binaryOp .LShift) (rI aBw fun i j=>.int (i*2 ^ j.toNat)):=opI fun _ _ _ _ _ _ _ hc q=>lshift_int_small hc.1 hc.2.1 hc.2.2 q
##aCC:i6 X (binaryOp .RShift) (rI (fun _ j=>0<=j) fun i j=>.int (i / 2 ^ j.toNat)):=opI fun i j _ _ _ _ _ hc q =>
 rshift_int hc (by rw [Int.fdiv_eq_ediv_of_nonneg i (IY _)]; !q)
##unI {f:Value->Sem Value} {g:Int->Int}
  (rule:∀ (i:Int) (t:Tok) (s:Shared) (Q:Value->Shared->Prop) (E:Value->Shared->Prop),Q (.int (g i) s.toks) { s with toks:=s.toks+1 }->wpAny (model X.prog X.w) X.A (f (.int i t)) Q E s) :
  UnR X f (rU fun i=>.int (g i)):=by
 intro pins s σ H x v Q I rx h
 &⟨i,rfl,q⟩:=h
 &⟨t,rfl⟩:=rx
 !rule i t s _ _ ⟨.int (g i),H,I.tok _,⟨_,rfl⟩,q⟩
##aCD:UnR X (unaryOp .USub) (rU fun i=>.int (-i)):=unI fun _ _ _ _ _ q=>neg_int q
end
def aCE:V->V->Bool
 | .non,.non=>true | .non,.int _=>true | .int _,.non=>true | .non,.bl _=>true | .bl _,.non=>true | .non,.str _=>true | .str _,.non=>true
 | .int _,.int _=>true | .bl _,.bl _=>true | .str _,.str _=>true | .N6 _,.N6 _=>true
 | .int _,.str _=>true | .str _,.int _=>true | .bl _,.str _=>true | .str _,.bl _=>true
 | _,_=>false
def rEq:R2:=fun x y H Q=>aCE x y=true/\Q (.bl (decide (x=y))) H
def rNe:R2:=fun x y H Q=>aCE x y=true/\Q (.bl (!decide (x=y))) H
##DL {i j:Int}:decide (V.int i=V.int j)=(i == j):=by
 rw [Bool.eq_iff_iff]
 simp
##IZ {i j:Bool}:decide (V.bl i=V.bl j)=(i == j):=by
 rw [Bool.eq_iff_iff]
 simp
##DM {i j:Str}:decide (V.str i=V.str j)=(i == j):=by
 rw [Bool.eq_iff_iff]
 simp
##MC {i j:Array UInt8}:decide (V.N6 i=V.N6 j)=(i.toList == j.toList):=by
 rw [Bool.eq_iff_iff]
 cases i
 cases j
 simp
section
variable {X:Cx} {a b c:Expr} {ta tb tc:TE} {pos:Pos}
##cL {pins:List (Addr×Obj)} {σ:St} {H:Hp} {s:Shared} {Q:VK} {k k':Bool} (I:Inv X pins σ H s) (q:Q (.bl k) H) (e:k=k'):EP X pins σ Q (.bool k') s:=by
 subst e
 !⟨.bl k,H,I,rfl,q⟩
##TU:i6 X (compareOp .Eq) rEq:=by
 intro pins s σ H x y v u Q I rx ry h
 &⟨hs,q⟩:=h
 cases x with
 | non =>
  cases rx
  cases y with
  | non=>cases ry; !PySem.EqNone.eq_none_none (cL I q (by simp))
  | bl j=>cases ry; !PySem.EqNone.eq_none_bool (cL I q (by simp))
  | int j=>&⟨t',rfl⟩:=ry; !PySem.EqNone.eq_none_int (cL I q (by simp))
  | str j=>&⟨t',rfl⟩:=ry; !PySem.EqNone.eq_none_str (cL I q (by simp))
  | _=>!absurd (show false=true from hs) Bool.false_ne_true
 | bl i =>
  cases rx
  cases y with
  | non=>cases ry; !PySem.EqNone.eq_bool_none (cL I q (by simp))
  | bl j=>cases ry; !eq_bool (cL I q IZ)
  | str j=>&⟨t',rfl⟩:=ry; !PySem.EqMixed.eq_bool_str (cL I q (by simp))
  | _=>!absurd (show false=true from hs) Bool.false_ne_true
 | int i =>
  &⟨t,rfl⟩:=rx
  cases y with
  | non=>cases ry; !PySem.EqNone.eq_int_none (cL I q (by simp))
  | int j=>&⟨t',rfl⟩:=ry; !eq_int (cL I q DL)
  | str j=>&⟨t',rfl⟩:=ry; !PySem.EqMixed.eq_int_str (cL I q (by simp))
  | _=>!absurd (show false=true from hs) Bool.false_ne_true
 | str i =>
  &⟨t,rfl⟩:=rx
  cases y with
  | non=>cases ry; !PySem.EqNone.eq_str_none (cL I q (by simp))
  | bl j=>cases ry; !PySem.EqMixed.eq_str_bool (cL I q (by simp))
  | int j=>&⟨t',rfl⟩:=ry; !PySem.EqMixed.eq_str_int (cL I q (by simp))
  | str j=>&⟨t',rfl⟩:=ry; !eq_str (cL I q DM)
  | _=>!absurd (show false=true from hs) Bool.false_ne_true
 | N6 i =>
  &⟨t,rfl⟩:=rx
  cases y with
  | N6 j=>&⟨t',rfl⟩:=ry; !PySem.W.eq_bytes (cL I q MC)
  | _=>!absurd (show false=true from hs) Bool.false_ne_true
 | _=>cases y<;>!absurd (show false=true from hs) Bool.false_ne_true
##TV:i6 X (compareOp .NotEq) rNe:=by
 intro pins s σ H x y v u Q I rx ry h
 &⟨hs,q⟩:=h
 cases x with
 | non =>
  cases rx
  cases y with
  | non=>cases ry; !PySem.EqNone.ne_none_none (cL I q (by simp))
  | bl j=>cases ry; !PySem.EqNone.ne_none_bool (cL I q (by simp))
  | int j=>&⟨t',rfl⟩:=ry; !PySem.EqNone.ne_none_int (cL I q (by simp))
  | str j=>&⟨t',rfl⟩:=ry; !PySem.EqNone.ne_none_str (cL I q (by simp))
  | _=>!absurd (show false=true from hs) Bool.false_ne_true
 | bl i =>
  cases rx
  cases y with
  | non=>cases ry; !PySem.EqNone.ne_bool_none (cL I q (by simp))
  | bl j=>cases ry; !ne_bool (cL I q (congrArg not IZ))
  | str j=>&⟨t',rfl⟩:=ry; !PySem.EqMixed.ne_bool_str (cL I q (by simp))
  | _=>!absurd (show false=true from hs) Bool.false_ne_true
 | int i =>
  &⟨t,rfl⟩:=rx
  cases y with
  | non=>cases ry; !PySem.EqNone.ne_int_none (cL I q (by simp))
  | int j=>&⟨t',rfl⟩:=ry; !ne_int (cL I q (congrArg not DL))
  | str j=>&⟨t',rfl⟩:=ry; !PySem.EqMixed.ne_int_str (cL I q (by simp))
  | _=>!absurd (show false=true from hs) Bool.false_ne_true
 | str i =>
  &⟨t,rfl⟩:=rx
  cases y with
  | non=>cases ry; !PySem.EqNone.ne_str_none (cL I q (by simp))
  | bl j=>cases ry; !PySem.EqMixed.ne_str_bool (cL I q (by simp))
  | int j=>&⟨t',rfl⟩:=ry; !PySem.EqMixed.ne_str_int (cL I q (by simp))
  | str j=>&⟨t',rfl⟩:=ry; !ne_str (cL I q (congrArg not DM))
  | _=>!absurd (show false=true from hs) Bool.false_ne_true
 | N6 i =>
  &⟨t,rfl⟩:=rx
  cases y with
  | N6 j=>&⟨t',rfl⟩:=ry; !PySem.W.ne_bytes (cL I q (congrArg not MC))
  | _=>!absurd (show false=true from hs) Bool.false_ne_true
 | _=>cases y<;>!absurd (show false=true from hs) Bool.false_ne_true
##MD:i6 X (compareOp .Lt) (OD fun i j=>.bl (decide (i<j))):=YU fun _ _ _ _ _ _ _ q=>lt_int q
##ME:i6 X (compareOp .LtE) (OD fun i j=>.bl (decide (i<=j))):=YU fun _ _ _ _ _ _ _ q=>le_int q
##aA6:i6 X (compareOp .Gt) (OD fun i j=>.bl (decide (j<i))):=YU fun _ _ _ _ _ _ _ q=>gt_int q
##aE3:i6 X (compareOp .GtE) (OD fun i j=>.bl (decide (j<=i))):=YU fun _ _ _ _ _ _ _ q=>ge_int q
##i6.or {f:Value->Value->Sem Value} {r r':R2} (h:i6 X f r) (h':i6 X f r'):i6 X f (fun x y H Q=>r x y H Q\/r' x y H Q):=by
 intro pins s σ H x y v u Q I rx ry q
 rcases q with q | q
 ·!h pins s σ H x y v u Q I rx ry q
 ·!h' pins s σ H x y v u Q I rx ry q
##jQ (b:Expr) {op:CmpOp} (h:op≠.In:=by decide) (h2:op≠.NotIn:=by decide):behindInMarks op b=false:=by
 have e1:(op == CmpOp.In)=false:=by cases op<;>first | rfl | !absurd rfl h
 have e2:(op == CmpOp.NotIn)=false:=by cases op<;>first | rfl | !absurd rfl h2
 cases b<;>simp [behindInMarks,e1,e2]
##YX {op:CmpOp} {r:R2} (ho:i6 X (compareOp op) r) (ha:PE X a ta) (hb:PE X b tb) (hm:behindInMarks op b=false):PE X (.Compare a [op] [b] pos) (tOp r ta tb):=by
 intro pins s σ H Q I h
 !wpAny_Compare1 (aBv ha hb I h fun v u s2 x y H2 I2 rx ry q=>ho pins s2 σ H2 x y v u Q I2 rx ry q) hm
def FS (t:TE):TT:=fun σ H Q=>t σ H fun x H'=>∃ k,x=.bl k/\Q k H'
##YY {op:CmpOp} {r:R2} (ho:i6 X (compareOp op) r) (ha:PE X a ta) (hb:PE X b tb) (hm:behindInMarks op b=false):PT X (.Compare a [op] [b] pos) (FS (tOp r ta tb)):=by
 intro pins s σ H Q I h
 @wpAny_isTrue_Compare1 (dN (ha pins s σ H _ I h) fun v s1 ⟨x,H1,I1,r1,q1⟩=>dN (hb pins s1 σ H1 _ I1 q1) fun u s2 ⟨y,H2,I2,r2,q2⟩ =>
  dN (ho pins s2 σ H2 x y v u _ I2 r1 r2 q2) fun c s3 ⟨z,H3,I3,r3,k,e,q3⟩=>?_) hm
 subst e
 cases r3
 !wpAny_truthy_bool ⟨H3,I3,q3⟩
def I0 (r r':R2) (ta tb tc:TE):TE:=fun σ H Q=>ta σ H fun x H1=>tb σ H1 fun y H2=>r x y H2 fun z H3=>∃ k,z=.bl k /\
 (if k=true then tc σ H3 fun w' H4=>r' y w' H4 Q else Q (.bl false) H3)
##TX {op op':CmpOp} {r r':R2} (ho:i6 X (compareOp op) r) (ho':i6 X (compareOp op') r') (ha:PE X a ta) (hb:PE X b tb) (hc:PE X c tc)
  (hm:lastMarks [op,op'] [b,c]=false:=by with_unfolding_all rfl):PE X (.Compare a [op,op'] [b,c] pos) (I0 r r' ta tb tc):=by
 intro pins s σ H Q I h
 @Compare_chain (dN (ha pins s σ H _ I h) fun v s1 ⟨x,H1,I1,r1,q1⟩=>chain_link (dN (hb pins s1 σ H1 _ I1 q1) fun u s2 ⟨y,H2,I2,r2,q2⟩ =>
  dN (ho pins s2 σ H2 x y v u _ I2 r1 r2 q2) fun d s3 ⟨z,H3,I3,r3,k,e,q3⟩=>?_)) hm
 subst e
 cases r3
 @wpAny_truthy_bool ?_
 cases k with
 | false=>!ite_ff ⟨.bl false,H3,I3,rfl,q3⟩
 | true=>!ite_tt (chain_last (dN (hc pins s3 σ H3 _ I3 q3) fun w' s4 ⟨z',H4,I4,r4,q4⟩=>ho' pins s4 σ H4 y z' u w' Q I4 r2 r4 q4))
##TY {op op':CmpOp} {r r':R2} (ho:i6 X (compareOp op) r) (ho':i6 X (compareOp op') r') (ha:PE X a ta) (hb:PE X b tb) (hc:PE X c tc)
  (hm:lastMarks [op,op'] [b,c]=false:=by with_unfolding_all rfl):PT X (.Compare a [op,op'] [b,c] pos) (FS (I0 r r' ta tb tc)):=by
 intro pins s σ H Q I h
 @isTrue_chain (dN (ha pins s σ H _ I h) fun v s1 ⟨x,H1,I1,r1,q1⟩=>test_link (dN (hb pins s1 σ H1 _ I1 q1) fun u s2 ⟨y,H2,I2,r2,q2⟩ =>
  dN (ho pins s2 σ H2 x y v u _ I2 r1 r2 q2) fun d s3 ⟨z,H3,I3,r3,k,e,q3⟩=>?_)) hm
 subst e
 cases r3
 @wpAny_truthy_bool ?_
 cases k with
 | false =>
  &⟨k',e',q'⟩:=q3
  cases e'
  !ite_ff ⟨H3,I3,q'⟩
 | true =>
  @ite_tt (test_last (dN (hc pins s3 σ H3 _ I3 q3) fun w' s4 ⟨z',H4,I4,r4,q4⟩=>dN (ho' pins s4 σ H4 y z' u w' _ I4 r2 r4 q4) fun d' s5 ⟨z2,H5,I5,r5,k2,e2,q5⟩=>?_))
  subst e2
  cases r5
  !wpAny_truthy_bool ⟨H5,I5,q5⟩
def aE4 (K:PySem.W.Frag) (x:V) (H:Hp) (k:Bool):Prop :=
 match x with
 | .non=>k=false
 | .bl b=>k=b
 | .int i=>k=(i != 0)
 | .str y=>y.length<=sizeLine/\k=((y.length:Int) != 0)
 | .N6 y=>y.size<=sizeLine/\k=((y.size:Int) != 0)
 | .ref p=>(∃ xs,gH K H p xs/\k=!xs.isEmpty)\/(∃ xs,gA K H p xs/\k=!xs.isEmpty) \/ ∃ kvs,H p=some (.dK kvs)/\k=!kvs.isEmpty
 | _=>False
##JA {κ:Type} {kvs:List (κ×V)} {vs:List (κ×Value)} (r:KV kvs vs):(!vs.isEmpty)=!kvs.isEmpty:=by
 cases r<;>rfl
##nD {xs:List V} {its:List Value} (r:Vals xs its):(!its.toArray.isEmpty)=!xs.isEmpty:=by
 cases r<;>simp
##DN:(sizeLine:Nat)<2 ^ 63:=by rw [sizeLine_eq]; decide
##aCF:aIs X (fun x H Q=>∃ k,aE4 X.K x H k/\Q k H):=by
 intro pins s σ H x v Q I rx h
 &⟨k,e,q⟩:=h
 have hl:=DN
 have hs:sizeLine=16777216:=sizeLine_eq
 cases x with
 | non =>
  cases rx
  have e':k=false:=e
  subst e'
  !truthy_none ⟨H,I,q⟩
 | bl b =>
  cases rx
  have e':k=b:=e
  subst e'
  !wpAny_truthy_bool ⟨H,I,q⟩
 | int i =>
  &⟨t,rfl⟩:=rx
  have e':k=(i != 0):=e
  subst e'
  !PySem.P.truthy_int ⟨H,I,q⟩
 | str y =>
  &⟨t,rfl⟩:=rx
  obtain ⟨hy,e'⟩:y.length<=sizeLine/\k=((y.length:Int) != 0):=e
  subst e'
  !PySem.P.truthy_str ° ⟨H,I.tok _,q⟩
 | N6 y =>
  &⟨t,rfl⟩:=rx
  obtain ⟨hy,e'⟩:y.size<=sizeLine/\k=((y.size:Int) != 0):=e
  subst e'
  !PySem.W.truthy_bytes ° ⟨H,I.tok _,q⟩
 | ref p =>
  cases rx
  have e':(∃ xs,gH X.K H p xs/\k=!xs.isEmpty)\/(∃ xs,gA X.K H p xs/\k=!xs.isEmpty) \/ ∃ kvs,H p=some (.dK kvs)/\k=!kvs.isEmpty:=e
  rcases e' with ⟨xs,hx,e'⟩ | ⟨xs,hx,e'⟩ | ⟨kvs,hx,e'⟩
  ·subst e'
   &⟨its,r,pl,hz⟩:=I.list hx
   have hlen:=r.length
   !wpAny_truthy_list pl.isList (by simp only [List.size_toArray]; omega) ⟨H,I.tok _,by rw [nD r]; !q⟩
  ·subst e'
   &⟨its,r,pl,hz⟩:=I.tuple hx
   have hlen:=r.length
   !truthy_tuple pl (by simp only [List.size_toArray]; omega) ⟨H,I.tok _,by rw [nD r]; !q⟩
  ·subst e'
   obtain ⟨hz,hS,vs,r,m⟩:kvs.length<=sizeLine/\(p == sysModules)=false /\ ∃ vs,KV kvs vs/\s.heap.DictOf (bB X.prog X.w) p vs:=I.hok p _ hx
   have hlen:kvs.length=vs.length:=Paired.length r
   !wpAny_truthy_dict hS m ° ⟨H,I.tok _,by rw [JA r]; !q⟩
 | _=>!(show False from e).elim
##TZ (ha:PE X a ta) (he:∀ whole,isTrue a X.env whole=(do let v <- whole; standAt a.pos; holding [v] (truthy v))) :
  PT X a (fun σ H Q=>ta σ H fun x H'=>∃ k,aE4 X.K x H' k/\Q k H'):=by
 intro pins s σ H Q I h
 !isTrue_plain (dN (ha pins s σ H _ I h) fun v s1 ⟨x,H1,I1,r1,q1⟩=>aCF pins s1 σ H1 x v Q I1 r1 q1) (he _)
##JB:i6 X (binaryOp .Add) (fun x y H Q=>∃ i j,x=.str i/\y=.str j/\i.length+j.length<=sizeLine/\Q (.str (i++j)) H):=by
 intro pins s σ H x y v u Q I rx ry h
 &⟨i,j,rfl,rfl,hz,q⟩:=h
 &⟨t,rfl⟩:=rx
 &⟨t',rfl⟩:=ry
 !add_str (fun t' tk=>⟨.str (i++j),H,I.tok _,⟨_,rfl⟩,q⟩) hz
##vals1 {x:V} {us:List Value} (r:Vals [x] us):∃ u,us=[u]/\RelV x u:=by
 cases r with
 | cons r1 r2=>cases r2; !⟨_,rfl,r1⟩
##vals2 {x y:V} {us:List Value} (r:Vals [x,y] us):∃ u w',us=[u,w']/\RelV x u/\RelV y w':=by
 cases r with
 | cons r1 r2 =>
  cases r2 with
  | cons r3 r4=>cases r4; !⟨_,_,rfl,r1,r3⟩
end
end L2
namespace L2
open PySem PySem.Spec PyProof.Rows
structure aCG (h:Heap) (x dx C:Addr) (mA:Str->Option Value):Prop where
 obj:h.get? x=some (PySem.W.instObj C dx)
 ns:h.Ns1 dx mA
 ne:dx≠x
##OE {h:Heap} {dx:Addr} {mA:Str->Option Value} (n:h.Ns1 dx mA):∃ od,h.get? dx=some od /\ ∀ name,PySem.W.lookIn name od=some (mA name):=by
 &⟨o,es,ep,ho,hd,hk,_,hm⟩:=n
 @⟨o,ho,fun name=>?_⟩
 have e:=hm name
 ~nsFind findBy at e
 rw [<- Array.find?_toList] at e
 ~PySem.W.lookIn
 rw [hd]
 dsimp only
 split
 ·rename_i y q
  rw [q] at e
  !congrArg some e
 ·rename_i q
  rw [q] at e
  have a:es.toList.any (·.refKey)=false:=by
   rw [List.any_eq_false]
   intro y hy
   &⟨z,t,hkey⟩:=hk y (Array.mem_toList_iff.mp hy)
   simp [DictEntry.refKey,hkey]
  have a':¬ es.toList.any (·.refKey)=true:=by rw [a]; !Bool.false_ne_true
  rw [if_neg a']
  !congrArg some e
##aCG.look {h:Heap} {x dx C:Addr} {mA:Str->Option Value} (I:aCG h x dx C mA):∃ od,PySem.W.InstAt h x (PySem.W.instObj C dx) C (some od) /\ ∀ name,PySem.W.lookIn name od=some (mA name) :=
 let ⟨od,ho,hl⟩:=OE I.ns
 ⟨od,⟨I.obj,rfl,rfl,ho⟩,hl⟩
section
variable {prog:Program} {w:World} {A:Around} {E:Value->Shared->Prop} {s:Shared} {K:PySem.W.Frag} {x dx C f:Addr} {mA:Str->Option Value} {name:Str} {v:Value}
end
##oD.some_of {v:V} {o:Option Value} (r:oD (some v) o):∃ u,o=some u/\RelV v u:=by
 cases o with
 | none=>!(show False from r).elim
 | some u=>!⟨u,rfl,r⟩
section
variable {P:Program} {w:World} {H H':Hp} {h h':Heap} {a C dx:Addr} {fs fs':List (Str×V)}
##YZ (hok:pU P w H h) (e:H a=some (.ins C dx fs)):∃ mA,aCG h a dx C mA/\(∀ f,oD (fs.lookup f) (mA f))/\PySem.Within mA (fs.map (·.1))/\fs.length<=1000/\H dx=some (.own a):=by
 &⟨d,z,ne,ob,mA,n,r,q⟩:=(show eA P w H h a (.ins C dx fs) from hok a _ e)
 !⟨mA,⟨ob,n,ne⟩,r,q,z,d⟩
end
structure Cls (K:PySem.W.Frag) (C:Addr):Prop where
 pg:PySem.W.plainGet K C Str.empty=true
 hd:PySem.W.hasDictIn K C=true
 po:PySem.W.plainOver K C=true
 sa:PySem.W.findIn K (.ref C) "__setattr__" = some (some (.builtin "object.__setattr__"))
##Cls.get {K:PySem.W.Frag} {C:Addr} (c:Cls K C) (f:Str):PySem.W.plainGet K C f=true:=c.pg
structure Con (K:PySem.W.Frag) (C:Addr) (f:Str) (v:V) (u:Value):Prop where
 at_:PySem.W.findIn K (.ref C) f=some (some u)
 rel:RelV v u
 get:PySem.W.specialIn K u "__get__" = some none
 cp:PySem.W.copiedNames.contains f=false
structure Meth (K:PySem.W.Frag) (C:Addr) (m:Str) (f:Addr):Prop where
 at_:PySem.W.findIn K (.ref C) m=some (some (.ref f))
 fn:PySem.W.isFn K (.ref f)=true
 kp:PySem.W.keepIn K (.ref f)=true
section
variable {X:Cx} {pins:List (Addr×Obj)} {σ:St} {H:Hp} {s:Shared} {a C dx:Addr} {fs:List (Str×V)} {f:Str} {v:V} {A:Around} {E:Value->Shared->Prop}
end
section
variable {X:Cx} {o e value:Expr} {f:Str} {pos pos' tpos:Pos} {ta tv:TE}
end
section
variable {X:Cx} {pins:List (Addr×Obj)} {σ:St} {H:Hp} {s:Shared} {A:Around} {E:Value->Shared->Prop} {Q:Value->Shared->Prop} {c:Value} {b:Bool}
inductive sG (K:PySem.W.Frag) (H:Hp):V->Value->Prop where
 | non:sG K H .non (.type "NoneType")
 | bl (x:Bool):sG K H (.bl x) (.type "bool")
 | int (i:Int):sG K H (.int i) (.type "int")
 | str (x:Str):sG K H (.str x) (.type "str")
 | flt (x:UInt64):sG K H (.flt x) (.type "float")
 | lst {a:Addr} {xs:List V} (e:H a=some (.lst xs)):sG K H (.ref a) (.type "list")
 | HL {a:Addr} {o:Obj} {xs:List V} (e:H a=some (.HL o (.lst xs))):sG K H (.ref a) (.type "list")
 | tup {a:Addr} {xs:List V} (e:H a=some (.tup xs)):sG K H (.ref a) (.type "tuple")
 | dK {a:Addr} {kvs:List (Key×V)} (e:H a=some (.dK kvs)):sG K H (.ref a) (.type "dict")
 | dT {a:Addr} {kvs:List (List Key×V)} (e:H a=some (.dT kvs)):sG K H (.ref a) (.type "dict")
 | ins {a C dx:Addr} {fs:List (Str×V)} (e:H a=some (.ins C dx fs)) (cl:Cls K C) (ha:PySem.W.findIn K (.ref C) "__class__" = some (some (.builtin "object.__class__")))
   (hn:PySem.W.specialIn K (.builtin "object.__class__") "__get__" = some (some (.builtin "getset_descriptor.__get__"))) (htk:PySem.W.takesIn K (.builtin "object.__class__")=some true)
   (hm:PySem.W.mroIn K C (.type "object")=some true):sG K H (.ref a) (.ref C)
##OG {x:V} {u t:Value} (I:Inv X pins σ H s) (rx:RelV x u) (ty:sG X.K H x t) (e:PySem.W.kitOne X.K t c=some b) (h:∀ tk,Q (.bool b) { s with toks:=tk }) :
  wpAny (model X.prog X.w) A (call (.builtin "isinstance") [u,c]) Q E s:=by
 cases ty with
 | non=>cases (show u=Value.none from rx); !PySem.W.kia_one PySem.W.kitx_none I.zH True.intro e (fun z=>nomatch z) h
 | bl y=>cases (show u=Value.bool y from rx); !PySem.W.kia_one PySem.W.kitx_bool I.zH True.intro e (fun z=>nomatch z) h
 | int i=>&⟨t,q⟩:=(show ∃ t,u=Value.int i t from rx); cases q; !PySem.W.kia_one PySem.W.kitx_int I.zH True.intro e (fun z=>nomatch z) h
 | str y=>&⟨t,q⟩:=(show ∃ t,u=Value.str y t from rx); cases q; !PySem.W.kia_one PySem.W.kitx_str I.zH True.intro e (fun z=>nomatch z) h
 | flt y=>&⟨t,q⟩:=(show ∃ t,u=Value.float y t from rx); cases q; !PySem.W.kia_one PySem.W.kitx_float I.zH True.intro e (fun z=>nomatch z) h
 | @lst a xs ea =>
  cases (show u=Value.ref a from rx)
  &⟨_,_,n,_,h1⟩:=(show eA X.prog X.w H s.heap a (.lst xs) from I.hok a _ ea)
  !PySem.W.kia_one PySem.W.kitx_list I.zH ⟨_,h1,rfl⟩ e (fun z=>nomatch z) h
 | @HL a ob xs ea =>
  cases (show u=Value.ref a from rx)
  &⟨_,_,_,n,_,h1⟩:=(show eA X.prog X.w H s.heap a (.HL ob (.lst xs)) from I.hok a _ ea)
  !PySem.W.kia_one PySem.W.kitx_list I.zH ⟨_,h1,rfl⟩ e (fun z=>nomatch z) h
 | @tup a xs ea =>
  cases (show u=Value.ref a from rx)
  &⟨_,_,_,p⟩:=(show eA X.prog X.w H s.heap a (.tup xs) from I.hok a _ ea)
  &⟨o,h1,h2,_⟩:=p
  !PySem.W.kia_one PySem.W.kitx_tuple I.zH ⟨o,h1,h2⟩ e (fun z=>nomatch z) h
 | @dK a kvs ea =>
  cases (show u=Value.ref a from rx)
  &⟨_,_,vs,_,p⟩:=(show eA X.prog X.w H s.heap a (.dK kvs) from I.hok a _ ea)
  &⟨o,es,ep,h1,h2,_⟩:=p
  !PySem.W.kia_one PySem.W.kitx_dict I.zH ⟨o,h1,h2.1⟩ e (fun z=>nomatch z) h
 | @dT a kvs ea =>
  cases (show u=Value.ref a from rx)
  &⟨_,_,xs,_,o,es,ep,h1,h2,_⟩:=(show eA X.prog X.w H s.heap a (.dT kvs) from I.hok a _ ea)
  !PySem.W.kia_one PySem.W.kitx_dict I.zH ⟨o,h1,h2.1⟩ e (fun z=>nomatch z) h
 | @ins a C dx fs ea cl ha hn htk hm =>
  cases (show u=Value.ref a from rx)
  &⟨mA,O,_⟩:=YZ I.hok ea
  &⟨od,J,_⟩:=O.look
  !PySem.W.kia_one (PySem.W.kitx_own (cl.get _) cl.hd ha hn htk hm) I.zH J e (fun z=>nomatch z) h
end
end L2
namespace L2
open PySem PySem.Spec PyProof.Rows
structure lA (k:Nat) (A:Around):Prop where
 hd:A.handled=none
 dp:A.depth+3*k+5<recursionLimit
 un:A.units+16*k+200<cLine
##lA.mono {j k:Nat} {A:Around} (r:lA k A) (h:j<=k):lA j A:=⟨r.hd,by have:=r.dp; omega,by have:=r.un; omega⟩
##lA.deeper {k:Nat} {A:Around} (r:lA (k+1) A) (env:Env):lA k (A.deeper env) :=
 ⟨r.hd,by have:=r.dp; show A.depth+1+3*k+5<_; omega,by have:=r.un; show A.units+3+16*k+200<_; omega⟩
##lA.depth {k:Nat} {A:Around} (r:lA k A):A.depth<recursionLimit:=by have:=r.dp; omega
def aE5:TA:=fun _ H Q=>Q [] H
def aA7 (ta:TE) (tr:TA):TA:=fun σ H Q=>ta σ H fun x H1=>tr σ H1 fun xs H2=>Q (x::xs) H2
section
variable {X:Cx} {e:Expr} {es:List Expr} {te:TE} {t:TA} {pos:Pos}
##xM:PA X [] aE5:=fun _ _ _ _ H Q I h=>Calls.spliced_nil ⟨[],H,I,.nil,h⟩
##nE (ha:PE X e te) (hr:PA X es t) (hs:starEach (e::es) X.env=(false,eval e X.env)::starEach es X.env:=by rfl):PA X (e::es) (aA7 te t):=by
 intro pos pins s σ H Q I h
 rw [hs]
 show wpAny _ _ (spliced ((false,eval e X.env)::backTo pos (starEach es X.env))) _ _ s
 @Calls.spliced_cons (dN (ha pins s σ H _ I h) fun u s1 ⟨x,H1,I1,r1,q1⟩=>?_)
 !dN (hr pos pins s1 σ H1 _ I1 q1) fun us s2 hq3=>by &⟨xs,H2,I2,r2,q2⟩:=hq3; !⟨x::xs,H2,I2,.cons r1 r2,q2⟩
def aIt (t:TA):TE:=fun σ H Q=>t σ H fun xs H1=>xs.length<=sizeLine /\ ∀ p,H1 p=none->Q (.ref p) (upd H1 p (.tup xs))
def aIu (t:TA):TE:=fun σ H Q=>t σ H fun xs H1=>xs.length<=sizeLine /\ ∀ p,H1 p=none->Q (.ref p) (upd H1 p (.lst xs))
##T4 {x1} (h:PA X es t):PE X (.Tuple es x1 pos) (aIt t):=by
 intro pins s σ H Q I hq
 @wpAny_Tuple_spliced (dN (h pos pins s σ H _ I hq) fun us s1 ⟨xs,H1,I1,r,z,q⟩=>⟨by rw [<- r.length]; !z,?_⟩)
 have hf:H1 s1.heap.objs.size=none:=I1.hok.fresh (Nat.le_refl _)
 @⟨.ref s1.heap.objs.size,upd H1 s1.heap.objs.size (.tup xs),I1.laid (t':=s1.toks) (fun b u e=>Heap.get?_push_of_some _ e) (Nat.le_refl _) ?_,rfl,q _ hf⟩
 !⟨z,us,r,⟨_,Heap.get?_push_size _ rfl,rfl,_,rfl⟩⟩
##aCH (h:PA X es t):PE X (.List es pos) (aIu t):=by
 intro pins s σ H Q I hq
 @wpAny_List_spliced (dN (h pos pins s σ H _ I hq) fun us s1 ⟨xs,H1,I1,r,z,q⟩=>⟨by rw [<- r.length]; !z,?_⟩)
 have hf:H1 s1.heap.objs.size=none:=I1.hok.fresh (Nat.le_refl _)
 @⟨.ref s1.heap.objs.size,upd H1 s1.heap.objs.size (.lst xs),I1.laid (t':=s1.toks) (fun b u e=>Heap.get?_push_of_some _ e) (Nat.le_refl _) ?_,rfl,q _ hf⟩
 !⟨z,us,0,r,Heap.get?_push_size _ rfl⟩
end
abbrev Sp:=List V->Hp->VK->XK->Prop
abbrev OH:=List Env->Hp->Shared->XK->Value->Shared->Prop
structure Y0 (P:Program) (w:World) (K:PySem.W.Frag) (mg:Str->Option Value) (base:Heap) (A:Around) (outer:List Env) (s:Shared) (H:Hp):Prop where
 frames:A.frames=some outer
 mod:Mod K mg base
 bs:∀ b o,base.get? b=some o->s.heap.get? b=some o/\H b=none
 YM:base.objs.size<=s.heap.objs.size
 vD:s.heap.FunFrames base outer
 frf:∀ b∈frs outer,H b=none
 hok:pU P w H s.heap
 bare:AllBare s.gens
def CE (outer:List Env) (P:Program) (w:World) (H:Hp) (s:Shared) (Q:VK) (u:Value) (s':Shared):Prop :=
 ∃ v H',s'.os=s.os/\AllBare s'.gens/\Un (frs outer) [] H H' s.heap s'.heap/\pU P w H' s'.heap/\RelV v u/\Q v H'
def CR (CX:OH) (outer:List Env) (P:Program) (w:World) (H:Hp) (s:Shared) (Q:VK) (E:XK) (r:Result) (s':Shared):Prop :=
 match r with
 | .ok (.ret u)=>CE outer P w H s Q u s'
 | .ok _=>False
 | .error e=>CX outer H s E e s'
structure aW (P:Program) (w:World) (K:PySem.W.Frag) (mg:Str->Option Value) (base:Heap) (CX:OH) (k:Nat) (f:Addr) (fd:FuncData) (ps:List Str) (sp:Sp):Prop where
 len:∀ vs H Q E,sp vs H Q E->vs.length=ps.length
 run:∀ (A:Around) (outer:List Env) (s:Shared) (H:Hp) (args:Args) (us:List Value) (vs:List V) (Q:VK) (E:XK),lA k A->Y0 P w K mg base A outer s H->BindsTo s fd args (ps.zip us)->Vals vs us->sp vs H Q E ->
  codeAny (model P w) A (.call (.ref f) args) (CR CX outer P w H s Q E) s
##aW.mono {P:Program} {w:World} {K:PySem.W.Frag} {mg:Str->Option Value} {base:Heap} {CX:OH} {j k:Nat} {f:Addr} {fd:FuncData} {ps:List Str} {sp:Sp} (F:aW P w K mg base CX j f fd ps sp) (h:j<=k) :
  aW P w K mg base CX k f fd ps sp:=⟨F.len,fun A outer s H args us vs Q E hr=>F.run A outer s H args us vs Q E (hr.mono h)⟩
section
variable {X:Cx} {pins:List (Addr×Obj)} {σ:St} {H:Hp} {s s':Shared}
##Inv.env0 (I:Inv X pins σ H s):Y0 X.prog X.w X.K X.mg X.base X.A X.stack s H :=
 ⟨I.ok.frames,I.ok.mod,I.bs,Nat.le_trans I.ok.YM I.sz,I.stack,I.DJ,I.hok,I.bare⟩
##Inv.after {Q:VK} {u:Value} (I:Inv X pins σ H s) (h:CE X.stack X.prog X.w H s Q u s'):EP X pins σ Q u s':=by
 &⟨v,H',os,bare,un,hok,r,q⟩:=h
 &⟨hh,g,d,t,os'⟩:=s'
 obtain rfl:os' = s.os:=os
 !⟨v,H',I.call (h':=hh) (g':=g) (d':=d) (t':=t) (ch:=[]) un hok bare (fun b z=>absurd z (by simp)),r,q⟩
end
def aE6 (sp:Sp) (dvs:List V) (E:XK) (t:TA):TE:=fun σ H Q=>t σ H fun vs H1=>sp (vs++dvs) H1 Q E
def Binds (K:PySem.W.Frag) (fd:FuncData) (ps:List Str) (ds:List Value):Prop :=
 ∀ (s:Shared) (us:List Value),K.In s.heap->(us++ds).length=ps.length->BindsTo s fd ⟨us,[]⟩ (ps.zip (us++ds))
##Binds.all {K:PySem.W.Frag} {fd:FuncData} {ps:List Str} (h:∀ us:List Value,us.length=ps.length->bindArgs fd ⟨us,[]⟩=pure (ps.zip us)):Binds K fd ps []:=fun s us _ hl=>by
 rw [List.append_nil] at hl ⊢
 !.of_eq (h us hl)
def Passes (CX:OH) (X:Cx) (E:XK):Prop:=∀ (pins:List (Addr×Obj)) (σ:St) (H:Hp) (s:Shared) (e:Value) (s':Shared),Inv X pins σ H s->CX X.stack H s E e s'->X.xe e s'
section
variable {X:Cx} {CX:OH} {k:Nat} {f C:Addr} {fd:FuncData} {ps:List Str} {sp:Sp} {dvs:List V} {ds:List Value} {E:XK} {x m:Str} {p pos apos:Pos} {e o:Expr} {es:List Expr} {ta:TE} {t:TA}
##aCI {pins:List (Addr×Obj)} {σ:St} {H:Hp} {s:Shared} {Q:VK} {us:List Value} {vs:List V} (F:aW X.prog X.w X.K X.mg X.base CX k f fd ps sp) (hr:lA k X.A) (hb:Binds X.K fd ps ds) (hd:Vals dvs ds) (hx:Passes CX X E)
  (I:Inv X pins σ H s) (r:Vals vs us) (h:sp (vs++dvs) H Q E):wpAny (model X.prog X.w) X.A (call (.ref f) us) (EP X pins σ Q) X.xe s:=by
 have r2:Vals (vs++dvs) (us++ds):=r.append hd
 have hl:(us++ds).length=ps.length:=by rw [<- r2.length]; !F.len _ _ _ _ h
 @wpAny_call (codeAny_mono (F.run X.A X.stack s H ⟨us,[]⟩ (us++ds) (vs++dvs) Q E hr I.env0 (hb s us I.zH hl) r2 h) fun r s' hq=>?_)
 cases r with
 | error e=>!hx pins σ H s e s' I hq
 | ok fl =>
  cases fl with
  | ret u=>!I.after hq
  | next=>!False.elim hq
  | brk=>!False.elim hq
  | cont=>!False.elim hq
##DO (F:aW X.prog X.w X.K X.mg X.base CX k f fd ps sp) (hr:lA k X.A) (hg:Gl X x) (hm:X.mg x=some (.ref f)) (hk:PySem.W.keepIn X.K (.ref f)=true) (hb:Binds X.K fd ps ds) (hd:Vals dvs ds) (hx:Passes CX X E)
  (ha:PA X (e::es) t) (hdb:(x == ("__debug__" : Str))=false:=by decide) (he:starEach (e::es) X.env=(false,eval e X.env)::starEach es X.env:=by rfl) (hpl:(backTo pos (starEach es X.env)).any (·.1)=false:=by rfl) :
  PE X (.Call (.Name x p) (e::es) [] pos) (aE6 sp dvs E t):=by
 intro pins s σ H Q I h
 @wpAny_Call_Name_kw (DK I hg hm ?_ hdb)
 @PySem.W.callWith_K (h₀:=X.base) I.ok.mod.kin hk (dN (ha pos pins s σ H _ I h) fun us s1 ⟨vs,H1,I1,r,q⟩=>⟨I1.zH,?_⟩) he hpl
 !aCI F hr hb hd hx I1 r q
structure Mk (K:PySem.W.Frag) (C f:Addr):Prop where
 makes:PySem.W.makesIn K C=true
 init:PySem.W.findIn K (.ref C) "__init__" = some (some (.ref f))
 fn:PySem.W.isFn K (.ref f)=true
 kp:PySem.W.keepIn K (.ref C)=true
end
section
variable {X:Cx} {CX:OH} {k:Nat} {f C:Addr} {fd:FuncData} {ps ks:List Str} {sp:Sp} {E:XK} {x m:Str} {p pos apos kpos:Pos} {e o:Expr} {es:List Expr} {kws:List Keyword} {te ta:TE} {t tk:TA} {nm:Option Str}
structure aIv (K:PySem.W.Frag) (fd:FuncData) (ps ks:List Str) (g:List Value->List Value->List Value) (gV:List V->List V->List V):Prop where
 to:∀ (s:Shared) (us ws:List Value),K.In s.heap->(g us ws).length=ps.length->BindsTo s fd ⟨us,ks.zip ws⟩ (ps.zip (g us ws))
 rel:∀ {vs:List V} {us:List Value} {zs:List V} {ws:List Value},Vals vs us->Vals zs ws->Vals (gV vs zs) (g us ws)
variable {g:List Value->List Value->List Value} {gV:List V->List V->List V}
end
structure bH (N P:List Str) (sc:Scope):Prop where
 kind:sc.kind=.function
 co:sc.isCoroutine=false
 gen:sc.isGenerator=false
 nd:N.Nodup
 pre:N.take P.length=P
 par:∀ x∈P,sc.names.lookup x=some .local\/sc.names.lookup x=some .cell
 aCJ:∀ y∈sc.names,y.2≠.free
##BI {kindOf:Str->Option NameKind} {x:Str}:∀ {binds:List (Str×Value)} {m:Str->Option Value},(∀ v,(x,v)∉binds)->bindL kindOf binds m x=m x
 | [],_,_=>rfl
 | (n,v)::r,m,h=>by
  ~bindL
  rw [BI fun w hw=>h w (List.mem_cons_of_mem _ hw)]
  split
  ·have:x≠n:=by rintro rfl; !h v List.mem_cons_self
   simp [this]
  ·rfl
##BJ {kindOf:Str->Option NameKind} {x:Str}:∀ {binds:List (Str×Value)} {m:Str->Option Value},(∀ v,(x,v)∉binds)->bindC kindOf binds m x=m x
 | [],_,_=>rfl
 | (n,v)::r,m,h=>by
  ~bindC
  rw [BJ fun w hw=>h w (List.mem_cons_of_mem _ hw)]
  split
  ·rfl
  ·have:x≠n:=by rintro rfl; !h v List.mem_cons_self
   simp [this]
##BK {kindOf:Str->Option NameKind} {x:Str} {v:Value}:∀ {P:List Str} {vs:List Value} {i:Nat} {m:Str->Option Value},P.Nodup->P[i]? = some x->vs[i]? = some v->kindOf x=some .local ->
  bindL kindOf (P.zip vs) m x=some v
 | [],_,_,_,_,h,_,_=>by simp at h
 | _::_,[],_,_,_,_,h,_=>by simp at h
 | p::P,w::vs,0,m,nd,h1,h2,hk=>by
  simp at h1 h2; subst h1; subst h2
  show bindL kindOf ((p,w)::P.zip vs) m p=_
  ~bindL
  rw [BI fun v hv=>(List.nodup_cons.mp nd).1 (List.of_mem_zip hv).1,if_pos hk]
  simp
 | p::P,w::vs,i+1,m,nd,h1,h2,hk=>by
  show bindL kindOf ((p,w)::P.zip vs) m x=_
  ~bindL
  !BK (i:=i) (List.nodup_cons.mp nd).2 (¥h1) (¥h2) hk
##BL {kindOf:Str->Option NameKind} {x:Str} {v:Value}:∀ {P:List Str} {vs:List Value} {i:Nat} {m:Str->Option Value},P.Nodup->P[i]? = some x->vs[i]? = some v->kindOf x≠some .local ->
  bindC kindOf (P.zip vs) m x=some v
 | [],_,_,_,_,h,_,_=>by simp at h
 | _::_,[],_,_,_,_,h,_=>by simp at h
 | p::P,w::vs,0,m,nd,h1,h2,hk=>by
  simp at h1 h2; subst h1; subst h2
  show bindC kindOf ((p,w)::P.zip vs) m p=_
  ~bindC
  rw [BJ fun v hv=>(List.nodup_cons.mp nd).1 (List.of_mem_zip hv).1,if_neg hk]
  simp
 | p::P,w::vs,i+1,m,nd,h1,h2,hk=>by
  show bindC kindOf ((p,w)::P.zip vs) m x=_
  ~bindC
  !BL (i:=i) (List.nodup_cons.mp nd).2 (¥h1) (¥h2) hk
def start (N:List Str) (vs:List V):St:=vs.map some++List.replicate (N.length - vs.length) none
def t6 (CX:OH) (P:Program) (w:World) (K:PySem.W.Frag) (mg:Str->Option Value) (base:Heap) (N:List Str) (qual:Str) (scope:Scope) (f:Addr) (cd:Value) (A:Around) (outer:List Env) (s:Shared) (H:Hp) (E:XK):Cx where
 prog:=P
 w:=w
 K:=K
 mg:=mg
 base:=base
 A:=A.deeper (envOfC qual scope s.heap.objs.size f cd)
 N:=N
 s₀:=s
 H₀:=H
 env:=envOfC qual scope s.heap.objs.size f cd
 outer:=outer
 stack:=envOfC qual scope s.heap.objs.size f cd::outer
 ex:=[]
 calm:=true
 fn:=fun _=>true
 pn:=[]
 xe:=fun e s'=>wpAny (model P w) (A.deeper (envOfC qual scope s.heap.objs.size f cd)) (leaving (envOfC qual scope s.heap.objs.size f cd) e) (fun _ s''=>CX outer H s E e s'') (fun e' s''=>CX outer H s E e' s'') s'
##FT {sc:Scope} {n:Nat} {x:Str} (h:sc.names.lookup x=some .cell):∃ c,(cellsFrom n sc.names []).lookup x=some c:=by
 have q:=PySem.W.cellsFrom_some sc.names n [] (.inl h)
 !Option.isSome_iff_exists.mp q
##OI {CX:OH} {P:Program} {w:World} {K:PySem.W.Frag} {mg:Str->Option Value} {base:Heap} {N ps:List Str} {qual:Str} {scope:Scope} {f:Addr} {cd:Value} {A:Around} {outer:List Env} {s s1:Shared} {H:Hp} {E:XK} {us:List Value} {vs:List V}
  (S:bH N ps scope) (hd:A.handled=none) (e0:Y0 P w K mg base A outer s H) (hl:vs.length=ps.length) (r:Vals vs us)
  (x:InCallC s s.heap.objs.size (bindL (envOfC qual scope s.heap.objs.size f cd).kindOf (ps.zip us) fun _=>none) (cellsFrom (s.heap.objs.size+1) scope.names []) (bindC (envOfC qual scope s.heap.objs.size f cd).kindOf (ps.zip us) fun _=>none) s1) :
  Inv (t6 CX P w K mg base N qual scope f cd A outer s H E) [] (start N vs) H s1:=by
 have hpl:ps.length<=N.length:=by have:=congrArg List.length S.pre; rw [List.length_take] at this; omega
 &⟨h1,tk,rfl,hk⟩:=x.done
 have noA:∀ b:Addr,b∉(t6 CX P w K mg base N qual scope f cd A outer s H E).ex:=fun b z=>absurd (show b∈([]:List Addr) from z) (by simp)
 @⟨⟨e0.mod,S.kind,rfl,rfl,Nat.le_refl _,fun y z c h1 h2=>?_,fun y hy=>?_,fun y c _ h=>?_,fun _=>hd,Around.frames_deeper e0.frames,.inr ⟨rfl,rfl⟩,fun b z=>absurd z (noA b),e0.bs,e0.YM,fun b _ _=>noA b,fun b z=>absurd z (noA b),e0.vD,e0.frf⟩,
  rfl,e0.bare,Un.kept hk,⟨_,x.toInCall.ns,fun i y v h1 h2 h3=>?_⟩,fun y c h=>⟨_,x.cell y c h⟩,e0.hok.fresh (Nat.le_refl _),fun y c h=>?_,fun p hp=>absurd (show p∈([]:List (Addr×Obj)) from hp) (by simp),e0.hok.kept hk,?_⟩
 ·!name_of_addr x.apart (PySem.mem_of_lookup h1) (PySem.mem_of_lookup h2)
 ·have hy:scope.names.lookup y=some .cell\/scope.names.lookup y=some .free:=hy
  rcases hy with hy | hy
  ·!FT hy
  ·!absurd rfl (S.aCJ _ (PySem.mem_of_lookup hy))
 ·!Nat.le_of_lt (x.above y c (PySem.mem_of_lookup h))
 ·have hi:i<vs.length:=by
   ~start at h2
   by_cases hi:i<vs.length
   ·!hi
   ·rw [List.getElem?_append_right (¥hi)] at h2
    rw [List.getElem?_replicate] at h2
    split at h2<;>cases h2
  have ha:vs[i]? = some v:=by
   ~start at h2
   rw [List.getElem?_append_left (¥hi),List.getElem?_map] at h2
   cases e:vs[i]? with
   | none=>rw [e] at h2; cases h2
   | some a=>rw [e] at h2; cases h2; rfl
  &⟨u,hu,rv⟩:=r.get ha
  have hp:ps[i]? = some y:=by
   rw [<- S.pre,List.getElem?_take_of_lt °]; !h1
  have ndP:ps.Nodup:=by rw [<- S.pre]; !S.nd.sublist (List.take_sublist _ _)
  @⟨u,rv,?_⟩
  rcases S.par y (List.mem_of_getElem? hp) with k | k
  ·!.inl ⟨k,BK ndP hp hu k⟩
  ·&⟨c,e⟩:=FT (n:=s.heap.objs.size+1) k
   @.inr ⟨.inl k,c,e,?_⟩
   have q:=x.cell y c e
   rw [BL ndP hp hu (by show scope.names.lookup y≠_; rw [k]; decide)] at q
   !q
 ·!e0.hok.fresh (Nat.le_of_lt (x.above y c (PySem.mem_of_lookup h)))
 ·~start
  show _=N.length
  rw [List.length_append,List.length_map,List.length_replicate]
  omega
##aA9 {CX:OH} {P:Program} {w:World} {K:PySem.W.Frag} {mg:Str->Option Value} {base:Heap} {k:Nat} {f:Addr} {name qual:Str} {params:Arguments} {body:List Stmt} {scope:Scope} {dV kV doc pm cdv ct oc:Value} {an od:Option Addr}
  {osl:Array (Option Value)} {N ps:List Str} {sp:Sp} (lk:K.lookup f=some ⟨oc,od,.func (PySem.W.fnOf name qual params body scope dV kV doc pm an cdv ct),osl⟩) (hcd:PySem.W.codeIn K cdv qual=true) (S:bH N ps scope)
  (len:∀ vs H Q E,sp vs H Q E->vs.length=ps.length)
  (hbody:∀ (A:Around) (outer:List Env) (s:Shared) (H:Hp) (vs:List V) (Q:VK) (E:XK),lA k (A.deeper (envOfC qual scope s.heap.objs.size f cdv))->sp vs H Q E ->
   ∃ t,HM (t6 CX P w K mg base N qual scope f cdv A outer s H E) body t/\t { nx:=fun _ H'=>Q .non H',rt:=Q } (start N vs) H) :
  aW P w K mg base CX (k+1) f (PySem.W.fnOf name qual params body scope dV kV doc pm an cdv ct) ps sp:=by
 @⟨len,fun A outer s H args us vs Q E hr e0 hb r hsp=>?_⟩
 have hl:=len _ _ _ _ hsp
 have KX:K.In s.heap:=e0.mod.kin.keeps fun b o e=>(e0.bs b o e).1
 have lim:s.heap.NoLimit:=e0.mod.nolimit.keeps fun b o e=>(e0.bs b o e).1
 have hkind:∀ y∈ps.zip us,scope.names.lookup y.1=some .local\/(scope.names.lookup y.1=some .cell/\((cellsFrom (s.heap.objs.size+1) scope.names []).lookup y.1).isSome=true):=fun ⟨n,v⟩ hy=>by
  rcases S.par n (List.of_mem_zip hy).1 with q | q
  ·!.inl q
  ·!.inr ⟨q,PySem.W.cellsFrom_some _ _ _ (.inl q)⟩
 @codeAny_call_function hr.depth (KX _ _ lk) rfl S.co S.gen rfl (PySem.W.codeRec_of KX hcd) (hb _ _ _ _ ?_)
 @wpAny_newFunctionEnv_cells S.kind hkind fun env he s1 x=>?_
 subst he
 @⟨lim.keeps x.toInCall.keep,codeAny_func ?_⟩
 &⟨t,ht,hq⟩:=hbody A outer s H vs Q E (hr.deeper _) hsp
 have I:Inv (t6 CX P w K mg base N qual scope f cdv A outer s H E) [] (start N vs) H s1:=OI S hr.hd e0 hl r x
 @wpAny_mono (ht [] s1 (start N vs) H _ I hq) (fun fl s' hs=>?_) fun e s' hs=>hs
 have fin:∀ {σ':St} {H':Hp} {v:V} {u:Value},Inv (t6 CX P w K mg base N qual scope f cdv A outer s H E) [] σ' H' s'->RelV v u->Q v H'->CE outer P w H s Q u s' :=
  fun {σ' H' v u} J rv q=>⟨v,H',J.os,J.bare,J.base,J.hok,rv,q⟩
 cases fl with
 | ret u =>
  &⟨v,σ',H',J,rv,q⟩:=hs
  !fin J rv q
 | next =>
  &⟨σ',H',J,q⟩:=hs
  !fin (v:=V.non) (u:=Value.none) J rfl q
 | brk =>
  &⟨_,_,_,q⟩:=hs
  !False.elim q
 | cont =>
  &⟨_,_,_,q⟩:=hs
  !False.elim q
end L2
namespace L2
open PySem PySem.Spec PyProof.Rows
section
variable {X:Cx} {x:Str} {p pos:Pos} {e:Expr} {es:List Expr} {t:TA} {id T:String} {r:List V->Hp->VK->Prop}
def tCB (r:List V->Hp->VK->Prop) (t:TA):TE:=fun σ H Q=>t σ H fun vs H1=>r vs H1 Q
##sH (hc:jI X (.builtin id) r) (hg:Gl X x) (hm:X.mg x=none) (hv:bootBuiltins x=some (.builtin id)) (ha:PA X (e::es) t) (hn:x ≠ "__name__" := by decide) (hdb:(x == ("__debug__" : Str))=false:=by decide)
  (he:starEach (e::es) X.env=(false,eval e X.env)::starEach es X.env:=by rfl) (hpl:(backTo pos (starEach es X.env)).any (·.1)=false:=by rfl):PE X (.Call (.Name x p) (e::es) [] pos) (tCB r t):=by
 intro pins s σ H Q I h
 @wpAny_Call_Name_kw (qP I hg hm hv ?_ hn hdb)
 !PyProof.Rows.callWith_builtin1 (dN (ha pos pins s σ H _ I h) fun us s1 ⟨vs,H1,I1,r1,q1⟩=>hc pins s1 σ H1 vs us Q I1 r1 q1) he hpl
##pH (hc:jI X (.type T) r) (hg:Gl X x) (hm:X.mg x=none) (hv:bootBuiltins x=some (.type T)) (ha:PA X (e::es) t) (hn:x ≠ "__name__" := by decide) (hdb:(x == ("__debug__" : Str))=false:=by decide)
  (he:starEach (e::es) X.env=(false,eval e X.env)::starEach es X.env:=by rfl) (hpl:(backTo pos (starEach es X.env)).any (·.1)=false:=by rfl):PE X (.Call (.Name x p) (e::es) [] pos) (tCB r t):=by
 intro pins s σ H Q I h
 @wpAny_Call_Name_kw (qP I hg hm hv ?_ hn hdb)
 !PyProof.Rows.callWith_type1 (dN (ha pos pins s σ H _ I h) fun us s1 ⟨vs,H1,I1,r1,q1⟩=>hc pins s1 σ H1 vs us Q I1 r1 q1) he hpl
end
end L2
namespace HT
open PySem PyProof.Rows
section
open PySem.SeqAt
open PySem.AutoSeq1 (wpAny_loadPart')
open PySem.MeetsSeq PySem.MeetsSeq2 PySem.MeetsSeq3
end
section
variable {prog:Program} {w:World} {A:Around} {E:Value->Shared->Prop} {s:Shared}
##Y1 {t b:Addr} {vs ws:List Value} {Q:Value->Shared->Prop} (ht:IsTup s.heap t vs.toArray) (hb:IsTup s.heap b ws.toArray) (hv:vs≠[])
  (h1:ws=[]->Q (.ref t) s) (h2:ws≠[]->Q (.ref s.heap.objs.size) { s with heap:=s.heap.push { cls:=.type "tuple",data:=.seq (vs++ws).toArray } })
  (hsz:vs.length+ws.length<=sizeLine):wpAny (model prog w) A (binaryOp .Add (.ref t) (.ref b)) Q E s:=by
 &⟨⟨cls,dd,data,sl⟩,ho,hc,n,hd⟩:=id ht
 &⟨⟨cls2,dd2,data2,sl2⟩,ho2,hc2,n2,hd2⟩:=id hb
 simp only at hc hd hc2 hd2
 subst hc hd hc2 hd2
 have e:vs.toArray++ws.toArray=(vs++ws).toArray:=by simp
 by_cases hw:ws=[]
 ·!concat_meets ⟨_,ho,rfl⟩ ⟨_,ho2,rfl⟩ noFill_tuple_add seq_tuple_add PySem.F.slot_tuple_add PySem.F.entry_tuple_add (PySem.F.args_tuple_add_2 _ _)
   (tuple_addW1 t b vs.toArray ws.toArray n n2 dd dd2 sl sl2 (¥hv) (by simp [hw])) ⟨ho,ho2,h1 hw⟩
 ·@concat_meets ⟨_,ho,rfl⟩ ⟨_,ho2,rfl⟩ noFill_tuple_add seq_tuple_add PySem.F.slot_tuple_add PySem.F.entry_tuple_add (PySem.F.args_tuple_add_2 _ _)
   (tuple_addW2 t b vs.toArray ws.toArray n n2 dd dd2 sl sl2 (¥hv) (¥hw) (by rw [List.size_toArray,List.size_toArray]; !hsz)) ⟨ho,ho2,?_⟩
  rw [e]
  !h2 hw
def iC (n d:Nat):Option Int->Nat
 | none=>d
 | some v=>if v<0 then (v+(n:Int)).toNat else min v.toNat n
##aCK (n d:Nat) (hd:d<=n) (o:Option Int):iC n d o<=n:=by
 cases o with
 | none=>!hd
 | some v =>
  show (if v<0 then (v+(n:Int)).toNat else min v.toNat n)<=n
  by_cases hv:v<0
  ·rw [if_pos hv]; omega
  ·rw [if_neg hv]; !Nat.min_le_right _ _
##MF (v:Int) (n d:Nat):(if v<0 then max (v+(n:Int)) 0 else min v (n:Int))=((iC n d (some v):Nat):Int):=by
 show (if v<0 then max (v+(n:Int)) 0 else min v (n:Int))=(((if v<0 then (v+(n:Int)).toNat else min v.toNat n):Nat):Int)
 by_cases hv:v<0
 ·simp only [if_pos hv]; omega
 ·simp only [if_neg hv]; omega
##JC (lo hi:Option Int) (n:Nat):Builtin.Slice.sliceAdjust lo hi 1 (n:Int)=(((iC n 0 lo:Nat):Int),((iC n n hi:Nat):Int)):=by
 have h1:¬ ((1:Int)<0):=by omega
 ~Builtin.Slice.sliceAdjust
 simp only [h1,if_false]
 @Prod.ext ?_ ?_
 ·cases lo with
  | none=>rfl
  | some v=>!MF v n 0
 ·cases hi with
  | none=>rfl
  | some v=>!MF v n n
##JD (i j:Nat):Builtin.Slice.slicePlaces (i:Int) (j:Int) 1=j - i:=by
 ~Builtin.Slice.slicePlaces
 have h1:(1:Int)>0:=by omega
 simp only [h1,if_true,Int.ediv_one]
 split<;>omega
##xN {v:Value} {o:Option Int} {Q:Option Int->Shared->Prop} (p:IsPart v o) (h:Q o s):wpAny (model prog w) A (Builtin.Slice.slicePartIndex v) Q E s:=by
 cases p with
 | none=>!slicePart_none h
 | int i t=>!slicePart_int h
##mK {sl:Addr} {vl vu:Value} {lo hi:Option Int} {n:Nat} {Q:Int×Int×Nat->Shared->Prop} (hs:s.heap.IsSliceOf sl vl vu .none) (pl:IsPart vl lo) (pu:IsPart vu hi)
  (h:Q (((iC n 0 lo:Nat):Int),1,iC n n hi - iC n 0 lo) s):wpAny (model prog w) A (Builtin.Slice.sliceApplied (.ref sl) (pure (n:Int))) Q E s:=by
 &⟨os,hos,hcs,hds⟩:=id hs
 ~Builtin.Slice.sliceApplied Builtin.Slice.sliceFields
 @wpAny_bind (wpAny_bind (wpAny_field hos hds (x:=vl) rfl (wpAny_bind (wpAny_field hos hds (x:=vu) rfl (wpAny_bind (wpAny_field hos hds (x:=.none) rfl (wpAny_pure ?_)))))))
 @wpAny_bind (slicePart_none ?_)
 show wpAny _ _ (if ((1:Int) == 0)=true then _ else _) _ _ s
 rw [if_neg §]
 @wpAny_bind (xN pl (wpAny_bind (xN pu (wpAny_bind (wpAny_pure ?_)))))
 show wpAny _ _ (match Builtin.Slice.sliceAdjust lo hi 1 (n:Int) with | (lo,hi)=>pure (lo,(1:Int),Builtin.Slice.slicePlaces lo hi 1)) _ _ s
 rw [JC lo hi n]
 show wpAny _ _ (pure (((iC n 0 lo:Nat):Int),(1:Int),Builtin.Slice.slicePlaces ((iC n 0 lo:Nat):Int) ((iC n n hi:Nat):Int) 1)) _ _ s
 rw [JD]
 !wpAny_pure h
##T5 (xs:Array Value) (i k:Nat):((List.range k).filterMap fun (m:Nat)=>xs[((i:Int)+(m:Int)*1).toNat]?).toArray=((xs.toList.drop i).take k).toArray:=by
 have e:(fun (m:Nat)=>xs[((i:Int)+(m:Int)*1).toNat]?)=fun m=>xs[i+m]?:=by
  funext m
  have:((i:Int)+(m:Int)*1).toNat=i+m:=by omega
  rw [this]
 rw [e]
 have:=pick_run xs i k
 rw [List.filterMap_map] at this
 have e2:((fun x=>xs[x]?)∘fun x=>i+x)=fun m=>xs[i+m]?:=rfl
 rw [e2] at this
 rw [this]
##sI {t sl:Addr} {items:Array Value} {vl vu:Value} {lo hi:Option Int} {Q:Value->Shared->Prop} (ht:IsTup s.heap t items) (hs:s.heap.IsSliceOf sl vl vu .none) (pl:IsPart vl lo) (pu:IsPart vu hi)
  (hw:¬ (iC items.size 0 lo=0/\iC items.size items.size hi=items.size))
  (h:Q (.ref s.heap.objs.size) { s with heap:=s.heap.push { cls:=.type "tuple",data:=.seq ((items.toList.drop (iC items.size 0 lo)).take (iC items.size items.size hi - iC items.size 0 lo)).toArray } })
  (hsz:items.size<=sizeLine):wpAny (model prog w) A (getItem (.ref t) (.ref sl)) Q E s:=by
 have MG:sizeOk (.seq ((items.toList.drop (iC items.size 0 lo)).take (iC items.size items.size hi - iC items.size 0 lo)).toArray):=by
  show ((items.toList.drop (iC items.size 0 lo)).take (iC items.size items.size hi - iC items.size 0 lo)).toArray.size<=sizeLine
  rw [List.size_toArray,List.length_take,List.length_drop,Array.length_toList]
  omega
 have hj:iC items.size items.size hi<=items.size:=aCK _ _ (Nat.le_refl _) hi
 &⟨os,hos,hcs,hds⟩:=id hs
 have hTs:s.TypeIs (.ref sl) "slice" := ⟨os,hos,hcs⟩
 ~getItem
 try with_reducible @wpAny_holding ?_
 first | @wpAny_bind (wpAny_pure ?_) | skip
 @wpAny_bind (wpAny_sequenceKey ht.typeIs § ?_)
 @wpAny_bind (wpAny_callSpecial?_slot (name:=Str.ofString "__getitem__") ht.typeIs PyProof.Rows.slot_tuple_getitem
  (wpAny_call_entry PyProof.Rows.slot_tuple_getitem ht.typeIs entry_tuple_getitem ?_ (args_tuple_getitem _ _)))
 show wpAny _ _ (Builtin.Tuple.tupleItemsOf (.ref t) >>= _) _ _ s
 @wpAny_bind (tupleItemsOf_ ht ?_)
 @wpAny_bind (wpAny_typeOf hTs ?_)
 rw [if_pos §]
 @wpAny_bind (mK hs pl pu ?_)
 have hno:¬ ((((iC items.size 0 lo:Nat):Int) == 0&&(1:Int) == 1&&(iC items.size items.size hi - iC items.size 0 lo) == items.size)=true):=by
  intro q
  rw [Bool.and_eq_true,Bool.and_eq_true] at q
  have q1:((iC items.size 0 lo:Nat):Int)=0:=eq_of_beq q.1.1
  have q2:iC items.size items.size hi - iC items.size 0 lo=items.size:=eq_of_beq q.2
  !hw ⟨by omega,by omega⟩
 show wpAny _ _ (if (((iC items.size 0 lo:Nat):Int) == 0&&(1:Int) == 1&&(iC items.size items.size hi - iC items.size 0 lo) == items.size)=true then _ else _) _ _ s
 rw [if_neg hno,T5]
 first
  | !wpAny_bind (m:=Builtin.Tuple.tupleExact _) (wpAny_newObj_type (wpAny_pure ⟨_,rfl,wpAny_pure h⟩) MG)
  | !wpAny_bind (m:=Builtin.Tuple.tupleExact _) (wpAny_newObj_type (wpAny_bind (wpAny_pure (wpAny_pure ⟨_,rfl,wpAny_pure h⟩))) MG)
  | !wpAny_bind (wpAny_bind (m:=Builtin.Tuple.tupleExact _) (wpAny_newObj_type (wpAny_pure (wpAny_pure ⟨_,rfl,wpAny_pure h⟩)) MG))
  | !wpAny_bind (wpAny_bind (m:=Builtin.Tuple.tupleExact _) (wpAny_newObj_type (wpAny_pure ⟨_,rfl,wpAny_pure h⟩) MG))
end
end HT
namespace L2
open PySem PySem.Spec PyProof.Rows
abbrev TO:=St->Hp->(Option Int->Hp->Prop)->Prop
def PO (X:Cx) (e:Option Expr) (t:TO):Prop :=
 ∀ (pins:List (Addr×Obj)) (s:Shared) (σ:St) (H:Hp) (Q:Option Int->Hp->Prop),Inv X pins σ H s->t σ H Q ->
  wpAny (model X.prog X.w) X.A (evalPart e X.env) (fun u s'=>∃ o H',Inv X pins σ H' s'/\IsPart u o/\Q o H') X.xe s
def Y2:TO:=fun _ H Q=>Q none H
def aE8 (t:TE):TO:=fun σ H Q=>t σ H fun x H1=>∃ i,x=.int i/\Q (some i) H1
##intsAre_of {ns:List Int}:∀ {us:List Value},Vals (ns.map V.int) us->IntsAre us ns:=by
 induction ns with
 | nil=>intro us r; rw [List.map_nil] at r; cases r; !.nil
 | cons n ns ih =>
  intro us r
  rw [List.map_cons] at r
  cases r with
  | cons r1 r2 =>
   &⟨t,e⟩:=r1
   subst e
   !.cons n t (ih r2)
section
variable {X:Cx} {e:Expr} {te:TE} {lo hi:Option Expr} {tl th:TO} {pos p2:Pos}
##Y3:PO X none Y2:=by
 intro pins s σ H Q I h
 rw [evalPart_none]
 !wpAny_pure ⟨none,H,I,.none,h⟩
##Y4 (h:PE X e te):PO X (some e) (aE8 te):=by
 intro pins s σ H Q I hw
 rw [evalPart_some]
 @dN (h pins s σ H _ I hw) fun u s1 hq4=>?_
 &⟨x,H1,I1,r1,q1⟩:=hq4
 &⟨i,rfl,q⟩:=q1
 &⟨t,rfl⟩:=r1
 !⟨some i,H1,I1,.int i t,q⟩
def SlR (X:Cx) (r:V->Option Int->Option Int->Hp->VK->Prop):Prop :=
 ∀ (pins:List (Addr×Obj)) (s:Shared) (σ:St) (H:Hp) (x:V) (v vl vu:Value) (lo hi:Option Int) (sl:Addr) (Q:VK),Inv X pins σ H s->RelV x v->s.heap.IsSliceOf sl vl vu .none->IsPart vl lo->IsPart vu hi->r x lo hi H Q ->
  ∃ T id,typeLookup (.type T) "__getitem__" = pure (some (.builtin id))/\s.TypeIs v T/\wpAny (model X.prog X.w) X.A (getItem v (.ref sl)) (EP X pins σ Q) X.xe s
##SlR.or {r r':V->Option Int->Option Int->Hp->VK->Prop} (h:SlR X r) (h':SlR X r'):SlR X (fun x lo hi H Q=>r x lo hi H Q\/r' x lo hi H Q):=by
 intro pins s σ H x v vl vu lo hi sl Q I rx hs pl pu q
 rcases q with q | q
 ·!h pins s σ H x v vl vu lo hi sl Q I rx hs pl pu q
 ·!h' pins s σ H x v vl vu lo hi sl Q I rx hs pl pu q
def tSl (r:V->Option Int->Option Int->Hp->VK->Prop) (te:TE) (tl th:TO):TE:=fun σ H Q=>te σ H fun x H1=>tl σ H1 fun l H2=>th σ H2 fun u H3=>r x l u H3 Q
##T6 {r:V->Option Int->Option Int->Hp->VK->Prop} (hr:SlR X r) (he:PE X e te) (hl:PO X lo tl) (hu:PO X hi th):PE X (.Subscript e (.Slice lo hi none p2) pos) (tSl r te tl th):=by
 intro pins s σ H Q I h
 @Subscript_ (dN (he pins s σ H _ I h) fun v s1 ⟨x,H1,I1,r1,q1⟩=>?_)
 @wpAny_Slice (dN (hl pins s1 σ H1 _ I1 q1) fun vl s2 ⟨l,H2,I2,pl,q2⟩=>dN (hu pins s2 σ H2 _ I2 q2) fun vu s3 ⟨u,H3,I3,pu,q3⟩=>?_)
 rw [evalPart_none]
 @wpAny_pure ?_
 have I4:Inv X pins σ H3 { s3 with heap:=s3.heap.push { cls:=.type "slice",data:=.fields #[vl,vu,.none] } }:=I3.kept (t':=s3.toks) fun b ob q=>Heap.get?_push_of_some _ q
 &⟨T,id,hT,ht,hg⟩:=hr pins { s3 with heap:=s3.heap.push { cls:=.type "slice",data:=.fields #[vl,vu,.none] } } σ H3 x v vl vu l u s3.heap.objs.size Q I4 r1 (Heap.IsSliceOf.new ..) pl pu q3
 show wpAny (model X.prog X.w) X.A (subscriptTail e (.Slice lo hi none p2) v (.ref s3.heap.objs.size)) (EP X pins σ Q) X.xe { s3 with heap:=s3.heap.push { cls:=.type "slice",data:=.fields #[vl,vu,.none] } }
 !tail_any (ops:=[.ref s3.heap.objs.size,v]) ht hT hg (by with_unfolding_all rfl)
def FU (xs:List V) (lo hi:Option Int):List V:=(xs.drop (HT.iC xs.length 0 lo)).take (HT.iC xs.length xs.length hi - HT.iC xs.length 0 lo)
##uQ (xs:List V) (lo hi:Option Int):(FU xs lo hi).length<=xs.length:=by
 ~FU
 rw [List.length_take,List.length_drop]
 omega
def aIw (K:PySem.W.Frag):V->Option Int->Option Int->Hp->VK->Prop:=fun x lo hi H Q=>∃ a xs,x=.ref a/\gA K H a xs /\
 ¬ (HT.iC xs.length 0 lo=0/\HT.iC xs.length xs.length hi=xs.length) /\ ∀ p,H p=none->Q (.ref p) (upd H p (.tup (FU xs lo hi)))
##aCL:SlR X (aIw X.K):=by
 intro pins s σ H x v vl vu lo hi sl Q I rx hs pl pu h
 &⟨a,xs,rfl,hx,hw,q⟩:=h
 cases rx
 &⟨its,r,ht,hz⟩:=I.tuple hx
 have hlen:its.toArray.size=xs.length:=by rw [List.size_toArray]; !r.length.symm
 @⟨"tuple",_,PyProof.Rows.slot_tuple_getitem.lookup,ht.typeIs,?_⟩
 @HT.sI ht hs pl pu (by rw [hlen]; !hw) ?_ (by rw [hlen]; !hz)
 rw [hlen]
 @⟨.ref s.heap.objs.size,_,I.laid (t':=s.toks) (o:=.tup (FU xs lo hi)) (fun b ob q=>Heap.get?_push_of_some _ q) (Nat.le_refl _) ?_,rfl,q _ (I.hok.fresh (Nat.le_refl _))⟩
 !⟨Nat.le_trans (uQ xs lo hi) hz,_,(r.drop (HT.iC xs.length 0 lo)).take (HT.iC xs.length xs.length hi - HT.iC xs.length 0 lo),IsTup.new _ _⟩
def aE9 (K:PySem.W.Frag):R2:=fun x y H Q=>∃ a b xs ys,x=.ref a/\y=.ref b/\gA K H a xs/\gA K H b ys/\xs≠[]/\xs.length+ys.length<=sizeLine /\
 (ys=[]->Q (.ref a) H)/\(ys≠[] -> ∀ p,H p=none->Q (.ref p) (upd H p (.tup (xs++ys))))
##Vals.DP {xs:List V} {us:List Value} (r:Vals xs us):us=[]↔xs=[]:=by
 cases r with
 | nil=>simp
 | cons _ _=>simp
##Y5:i6 X (binaryOp .Add) (aE9 X.K):=by
 intro pins s σ H x y v u Q I rx ry h
 &⟨a,b,xs,ys,rfl,rfl,ha,hb,hx,hz,q1,q2⟩:=h
 cases rx
 cases ry
 &⟨its,r1,p1,_⟩:=I.tuple ha
 &⟨its2,r2,p2,_⟩:=I.tuple hb
 @HT.Y1 p1 p2 (fun z=>hx (r1.DP.mp z)) (fun z=>⟨.ref a,H,I,rfl,q1 (r2.DP.mp z)⟩) (fun z=>?_) (by rw [<- r1.length,<- r2.length]; !hz)
 @⟨.ref s.heap.objs.size,_,I.laid (t':=s.toks) (o:=.tup (xs++ys)) (fun b ob q=>Heap.get?_push_of_some _ q) (Nat.le_refl _) ?_,rfl,q2 (fun w=>z (r2.DP.mpr w)) _ (I.hok.fresh (Nat.le_refl _))⟩
 !⟨by rw [List.length_append]; !hz,_,r1.append r2,IsTup.new _ _⟩
end
end L2
namespace L2
open PySem PySem.Spec PyProof.Rows
def Y6 (n:Nat) (i:Int):Option Nat:=if 0<=i then (if i<n then some i.toNat else none) else if -(n:Int)<=i then some (i+n).toNat else none
def vE {α:Type} (xs:List α) (i:Int):Option α:=(Y6 xs.length i).bind fun j=>xs[j]?
##MH {n:Nat} {i:Int} {j:Nat} (h:Y6 n i=some j):seqIndex? i n=some j/\j<n /\ -(n:Int)<=i/\i<n:=by
 ~Y6 at h
 by_cases h0:0<=i
 ·rw [if_pos h0] at h
  by_cases h1:i<n
  ·rw [if_pos h1] at h
   have e:i.toNat=j:=Option.some.inj h
   !⟨by rw [seqIndex_of h0 h1,e],by omega,by omega,h1⟩
  ·rw [if_neg h1] at h; cases h
 ·rw [if_neg h0] at h
  by_cases h1:-(n:Int)<=i
  ·rw [if_pos h1] at h
   have e:(i+n).toNat=j:=Option.some.inj h
   !⟨by rw [seqIndex_neg ° h1,e],by omega,h1,by omega⟩
  ·rw [if_neg h1] at h; cases h
##MI {α:Type} {xs:List α} {i:Int} {v:α} (h:vE xs i=some v):∃ j,seqIndex? i xs.length=some j/\xs[j]? = some v/\j<xs.length /\ -(xs.length:Int)<=i/\i<xs.length:=by
 ~vE at h
 cases e:Y6 xs.length i with
 | none=>rw [e] at h; cases h
 | some j =>
  rw [e] at h
  &⟨h1,h2,h3,h4⟩:=MH e
  !⟨j,h1,h,h2,h3,h4⟩
def DQ (b:Expr):Prop:=∀ o i,subscripted b false o i=operate [o,i] (getItem o i)
def IxR (X:Cx) (r:R2):Prop :=
 ∀ (value slice:Expr) (pins:List (Addr×Obj)) (s:Shared) (σ:St) (H:Hp) (x y:V) (v u:Value) (Q:VK),Inv X pins σ H s->RelV x v->RelV y u->r x y H Q ->
  subscripted slice false v u=operate [v,u] (getItem v u)->wpAny (model X.prog X.w) X.A (subscriptTail value slice v u) (EP X pins σ Q) X.xe s
def MtR (X:Cx) (id:String) (r:V->List V->Hp->VK->Prop):Prop :=
 ∀ (pins:List (Addr×Obj)) (s:Shared) (σ:St) (H:Hp) (x:V) (xs:List V) (v:Value) (us:List Value) (Q:VK),Inv X pins σ H s->RelV x v->Vals xs us->r x xs H Q ->
  wpAny (model X.prog X.w) X.A (call (.builtin id) (v::us)) (EP X pins σ Q) X.xe s
section
variable {X:Cx} {a b:Expr} {ta tb:TE} {pos:Pos}
##IxR.or {r r':R2} (h:IxR X r) (h':IxR X r'):IxR X (fun x y H Q=>r x y H Q\/r' x y H Q):=by
 intro value slice pins s σ H x y v u Q I rx ry q hs
 rcases q with q | q
 ·!h value slice pins s σ H x y v u Q I rx ry q hs
 ·!h' value slice pins s σ H x y v u Q I rx ry q hs
##aEa {r:R2} (hr:IxR X r) (ha:PE X a ta) (hb:PE X b tb) (hs:DQ b):PE X (.Subscript a b pos) (tOp r ta tb):=by
 intro pins s σ H Q I h
 !Subscript_ (aBv ha hb I h fun v u s2 x y H2 I2 rx ry q=>hr a b pins s2 σ H2 x y v u Q I2 rx ry q (hs _ _))
def aEb (K:PySem.W.Frag):R2:=fun x y H Q=>∃ p xs i v,x=.ref p/\y=.int i/\gH K H p xs/\vE xs i=some v/\Q v H
def aEc (K:PySem.W.Frag):R2:=fun x y H Q=>∃ p xs i v,x=.ref p/\y=.int i/\gA K H p xs/\vE xs i=some v/\Q v H
##Y7:IxR X (aEb X.K):=by
 intro value slice pins s σ H x y v u Q I rx ry h hs
 &⟨p,xs,i,z,rfl,rfl,hq,he,q⟩:=h
 cases rx
 &⟨t,rfl⟩:=ry
 &⟨its,r,pl,hz⟩:=I.list hq
 &⟨j,h1,h2,h3,h4,h5⟩:=MI he
 &⟨w,ew,w8⟩:=r.get h2
 have hl:=r.length
 have hn:=DN
 have fin:EP X pins σ Q w s:=⟨z,H,I,w8,q⟩
 by_cases h0:0<=i
 ·have hj:i.toNat=j:=by
   rw [seqIndex_of h0 h5] at h1
   !Option.some.inj h1
  !item_listR pl.isList h0 ° (by rw [hj]; simpa using ew) fin hs
 ·have hj:(i+(its.toArray.size:Int)).toNat=j:=by
   rw [seqIndex_neg ° h4] at h1
   rw [List.size_toArray,<- hl]
   !Option.some.inj h1
  !subscriptTail_builtinR (x:=w) pl.isList.typeIs slot_list_getitem.lookup
   (wpAny_getItem_list_neg (Q:=fun r s'=>r=w/\EP X pins σ Q r s') pl.isList ° (by rw [List.size_toArray]<;>omega) ° (by rw [hj]; simpa using ew) ⟨rfl,fin⟩) hs
##aCN:IxR X (aEc X.K):=by
 intro value slice pins s σ H x y v u Q I rx ry h hs
 &⟨p,xs,i,z,rfl,rfl,hq,he,q⟩:=h
 cases rx
 &⟨t,rfl⟩:=ry
 &⟨its,r,pl,hz⟩:=I.tuple hq
 &⟨j,h1,h2,h3,h4,h5⟩:=MI he
 &⟨w,ew,w8⟩:=r.get h2
 have hl:=r.length
 have hn:=DN
 have fin:EP X pins σ Q w s:=⟨z,H,I,w8,q⟩
 !subscriptTail_builtinR (x:=w) pl.typeIs slot_tuple_getitem.lookup
  (getItem_tuple (j:=j) (Q:=fun r s'=>r=w/\EP X pins σ Q r s') pl ° ° (by rw [List.size_toArray,<- hl]; !h1) (¥ew) ⟨rfl,fin⟩) hs
##Inv.lst {pins:List (Addr×Obj)} {σ:St} {H:Hp} {s:Shared} {p:Addr} {xs:List V} (I:Inv X pins σ H s) (h:H p=some (.lst xs)) :
  ∃ (its:List Value) (n:Nat),Vals xs its/\s.heap.get? p=some { cls:=.type "list",data:=.seq its.toArray n }/\xs.length<=sizeLine:=by
 &⟨z,its,n,r,e⟩:=I.hok p _ h
 !⟨its,n,r,e,z⟩
##DR (lo hi:Option Int) (n:Nat):(sliceBounds lo hi none n).1=((HT.iC n 0 lo:Nat):Int)/\(sliceBounds lo hi none n).2.1=((HT.iC n n hi:Nat):Int)/\(sliceBounds lo hi none n).2.2=1:=by
 @⟨?_,?_,rfl⟩
 ·cases lo with
  | none=>simp [sliceBounds,HT.iC]
  | some i =>
   simp only [sliceBounds,HT.iC,Option.getD_none,show (1:Int)>0 by decide,if_true]
   by_cases h:i<0
   ·simp only [h,if_true]<;>omega
   ·simp only [h,if_false]<;>omega
 ·cases hi with
  | none=>simp [sliceBounds,HT.iC]
  | some i =>
   simp only [sliceBounds,HT.iC,Option.getD_none,show (1:Int)>0 by decide,if_true]
   by_cases h:i<0
   ·simp only [h,if_true]<;>omega
   ·simp only [h,if_false]<;>omega
##zT (its:List Value) (lo hi:Option Int):slicePick its.toArray lo hi none=((its.drop (HT.iC its.length 0 lo)).take (HT.iC its.length its.length hi - HT.iC its.length 0 lo)).toArray:=by
 &⟨h1,h2,h3⟩:=DR lo hi its.toArray.size
 ~slicePick
 rw [h1,h2,h3]
 simp only [sliceRange_one,pick_run,List.size_toArray]<;>rfl
def aIy (K:PySem.W.Frag):V->Option Int->Option Int->Hp->VK->Prop:=fun x lo hi H Q=>∃ a xs,x=.ref a/\gH K H a xs /\ ∀ p,H p=none->Q (.ref p) (upd H p (.lst (FU xs lo hi)))
##Y8:SlR X (aIy X.K):=by
 intro pins s σ H x v vl vu lo hi sl Q I rx hs pl pu h
 &⟨a,xs,rfl,hx,q⟩:=h
 cases rx
 &⟨its,r,ht,hz⟩:=I.list hx
 have hlen:=r.length
 @⟨"list",_,slot_list_getitem.lookup,ht.isList.typeIs,?_⟩
 @wpAny_getItem_list_slice ht.isList hs pl pu .none (by simp) ?_ (by rw [List.size_toArray]<;>omega)
 rw [zT,<- hlen]
 @⟨.ref s.heap.objs.size,_,I.laid (t':=s.toks) (o:=.lst (FU xs lo hi)) (fun b ob q=>Heap.get?_push_of_some _ q) (Nat.le_refl _) ?_,rfl,q _ (I.hok.fresh (Nat.le_refl _))⟩
 !⟨Nat.le_trans (uQ xs lo hi) hz,_,0,(r.drop (HT.iC xs.length 0 lo)).take (HT.iC xs.length xs.length hi - HT.iC xs.length 0 lo),Heap.get?_push_size _ rfl⟩
def sJ:V->Bool
 | .non=>true
 | .bl _=>true
 | .int _=>true
 | .str _=>true
 | _=>false
def eqV:V->V->Bool
 | .non,.non=>true
 | .bl a,.bl b=>a == b
 | .bl a,.int b=>(if a then 1 else 0) == b
 | .int a,.bl b=>a == (if b then 1 else 0)
 | .int a,.int b=>a == b
 | .str a,.str b=>a == b
 | _,_=>false
##aCO {A:Around} {s:Shared} {y x:V} {u v:Value} (ry:RelV y u) (rx:RelV x v) (fy:sJ y=true) (fx:sJ x=true):SeqAt.EqAt A s u v (eqV y x):=by
 cases y with
 | non =>
  cases ry
  cases x with
  | non=>cases rx; !SeqAt.EqAt.same _
  | bl b=>cases rx; !SeqAt.EqAt.none_bool b
  | int b=>&⟨t,rfl⟩:=rx; !SeqAt.EqAt.none_int b t
  | str b=>&⟨t,rfl⟩:=rx; !SeqAt.EqAt.none_str b t
  | _=>!absurd (show false=true from fx) Bool.false_ne_true
 | bl a =>
  cases ry
  cases x with
  | non=>cases rx; !SeqAt.EqAt.bool_none a
  | bl b=>cases rx; !SeqAt.EqAt.bool_bool a b
  | int b=>&⟨t,rfl⟩:=rx; !SeqAt.EqAt.bool_int a b t
  | str b=>&⟨t,rfl⟩:=rx; !SeqAt.EqAt.bool_str a b t
  | _=>!absurd (show false=true from fx) Bool.false_ne_true
 | int a =>
  &⟨t',rfl⟩:=ry
  cases x with
  | non=>cases rx; !SeqAt.EqAt.int_none a t'
  | bl b=>cases rx; !SeqAt.EqAt.int_bool a t' b
  | int b=>&⟨t,rfl⟩:=rx; !SeqAt.EqAt.int_int a t' b t
  | str b=>&⟨t,rfl⟩:=rx; !SeqAt.EqAt.int_str a t' b t
  | _=>!absurd (show false=true from fx) Bool.false_ne_true
 | str a =>
  &⟨t',rfl⟩:=ry
  cases x with
  | non=>cases rx; !SeqAt.EqAt.str_none a t'
  | bl b=>cases rx; !SeqAt.EqAt.str_bool a t' b
  | int b=>&⟨t,rfl⟩:=rx; !SeqAt.EqAt.str_int a t' b t
  | str b=>&⟨t,rfl⟩:=rx; !SeqAt.EqAt.str_str a t' b t
  | _=>!absurd (show false=true from fx) Bool.false_ne_true
 | _=>!absurd (show false=true from fy) Bool.false_ne_true
def JE (x:V) (u:Value):Bool:=match u with
 | .none=>eqV .non x
 | .bool b=>eqV (.bl b) x
 | .int i _=>eqV (.int i) x
 | .str z _=>eqV (.str z) x
 | _=>false
##T7 {x y:V} {u:Value} (r:RelV y u) (f:sJ y=true):JE x u=eqV y x:=by
 cases y with
 | non=>cases r; rfl
 | bl b=>cases r; rfl
 | int i=>&⟨t,rfl⟩:=r; rfl
 | str z=>&⟨t,rfl⟩:=r; rfl
 | _=>!absurd (show false=true from f) Bool.false_ne_true
##sK {x:V}:∀ {xs:List V} {us:List Value},Vals xs us->xs.all sJ=true->us.any (JE x)=xs.any fun y=>eqV y x
 | _,_,.nil,_=>rfl
 | y::xs,u::us,.cons r t,f=>by
  rw [List.all_cons,Bool.and_eq_true] at f
  rw [List.any_cons,List.any_cons,T7 r f.1,sK t f.2]
##oH {A:Around} {s:Shared} {x:V} {v:Value} (rx:RelV x v) (fx:sJ x=true):∀ {xs:List V} {us:List Value},Vals xs us->xs.all sJ=true -> ∀ u∈us,SeqAt.EqAt A s u v (JE x u)
 | _,_,.nil,_=>fun u hu=>by cases hu
 | y::xs,u::us,.cons r t,f=>fun u' hu=>by
  rw [List.all_cons,Bool.and_eq_true] at f
  rcases List.mem_cons.mp hu with rfl | hu
  ·rw [T7 r f.1]; !aCO r rx f.1 fx
  ·!oH rx fx t f.2 u' hu
def inV (x:V) (xs:List V):Bool:=xs.any fun y=>eqV y x
def rIn (K:PySem.W.Frag) (neg:Bool):R2:=fun x y H Q=>∃ p xs,y=.ref p/\(gH K H p xs\/gA K H p xs)/\sJ x=true/\xs.all sJ=true/\Q (.bl (if neg then !inV x xs else inV x xs)) H
##BM:i6 X (compareOp .In) (rIn X.K false):=by
 intro pins s σ H x y v u Q I rx ry h
 &⟨p,xs,rfl,hq,fx,fs,q⟩:=h
 cases ry
 rcases hq with hq | hq
 ·&⟨its,r,pl,hz⟩:=I.list hq
  @SeqAt.in_listAt (JE x) pl.isList (fun w hw=>oH rx fx r fs w (¥hw)) ⟨.bl _,H,I,rfl,?_⟩
  rw [show its.toArray.any (JE x)=its.any (JE x) by simp,sK r fs]
  !q
 ·&⟨its,r,pl,hz⟩:=I.tuple hq
  @SeqAt.in_tupleAt (JE x) pl (fun w hw=>oH rx fx r fs w (¥hw)) ⟨.bl _,H,I,rfl,?_⟩
  rw [show its.toArray.any (JE x)=its.any (JE x) by simp,sK r fs]
  !q
##sL:i6 X (compareOp .NotIn) (rIn X.K true):=by
 intro pins s σ H x y v u Q I rx ry h
 &⟨p,xs,rfl,hq,fx,fs,q⟩:=h
 cases ry
 rcases hq with hq | hq
 ·&⟨its,r,pl,hz⟩:=I.list hq
  @SeqAt.notIn_listAt (JE x) pl.isList (fun w hw=>oH rx fx r fs w (¥hw)) ⟨.bl _,H,I,rfl,?_⟩
  rw [show its.toArray.any (JE x)=its.any (JE x) by simp,sK r fs]
  !q
 ·&⟨its,r,pl,hz⟩:=I.tuple hq
  @SeqAt.notIn_tupleAt (JE x) pl (fun w hw=>oH rx fx r fs w (¥hw)) ⟨.bl _,H,I,rfl,?_⟩
  rw [show its.toArray.any (JE x)=its.any (JE x) by simp,sK r fs]
  !q
##DS:jI X (.builtin "len") (fun xs H Q=>∃ p ys,xs=[.ref p]/\(gH X.K H p ys\/gA X.K H p ys)/\Q (.int ys.length) H):=by
 intro pins s σ H xs us Q I r h
 &⟨p,ys,rfl,hq,q⟩:=h
 &⟨u,rfl,rx⟩:=vals1 r
 cases rx
 have hn:=DN
 rcases hq with hq | hq
 ·&⟨its,r',pl,hz⟩:=I.list hq
  have hlen:=r'.length
  !Calls.call_len_list pl.isList (by simp only [List.size_toArray]<;>omega) ⟨.int ys.length,H,I.tok _,⟨s.toks+1,by rw [List.size_toArray,hlen]⟩,q⟩
 ·&⟨its,r',pl,hz⟩:=I.tuple hq
  have hlen:=r'.length
  !len_tuple pl (by simp only [List.size_toArray]<;>omega) ⟨.int ys.length,H,I.tok _,⟨s.toks+1,by rw [List.size_toArray,hlen]⟩,q⟩
##DT:jI X (.type "list") (fun xs H Q=>∃ p ys,xs=[.ref p]/\(gH X.K H p ys\/gA X.K H p ys) /\ ∀ l,H l=none->Q (.ref l) (upd H l (.lst ys))):=by
 intro pins s σ H xs us Q I r h
 &⟨p,ys,rfl,hq,q⟩:=h
 &⟨u,rfl,rx⟩:=vals1 r
 cases rx
 have fin:∀ (its:List Value),Vals ys its->ys.length<=sizeLine -> ∀ (h':Heap) (c':Nat),(∀ b o',s.heap.get? b=some o'->h'.get? b=some o') ->
   h'.get? s.heap.objs.size=some { cls:=.type "list",dict:=none,data:=.seq its.toArray c',slots:=#[] }->EP X pins σ Q (.ref s.heap.objs.size) { s with heap:=h' }:=fun its r' hz h' c' kp e =>
  ⟨.ref s.heap.objs.size,_,I.laid (t':=s.toks) kp (Nat.le_refl _) (show eA X.prog X.w _ h' _ (.lst ys) from ⟨hz,its,c',r',e⟩),rfl,q _ (I.hok.fresh (Nat.le_refl _))⟩
 rcases hq with hq | hq
 ·&⟨its,r',pl,hz⟩:=I.list hq
  have hlen:=r'.length
  &⟨o,ho,hc,n,hd⟩:=pl.isList
  !call_list_seq p (.inl rfl) ho hc hd (fun h' c' kp e=>fin its r' hz h' c' kp e) (by simp only [List.size_toArray]<;>omega)
 ·&⟨its,r',pl,hz⟩:=I.tuple hq
  have hlen:=r'.length
  &⟨o,ho,hc,n,hd⟩:=pl
  !call_list_seq p (.inr rfl) ho hc hd (fun h' c' kp e=>fin its r' hz h' c' kp e) (by simp only [List.size_toArray]<;>omega)
##zU:jI X (.type "tuple") (fun xs H Q=>∃ p ys,xs=[.ref p]/\((gH X.K H p ys /\ ∀ l,H l=none->Q (.ref l) (upd H l (.tup ys)))\/(gA X.K H p ys/\Q (.ref p) H))):=by
 intro pins s σ H xs us Q I r h
 &⟨p,ys,rfl,h⟩:=h
 &⟨u,rfl,rx⟩:=vals1 r
 cases rx
 rcases h with ⟨hq,q⟩ | ⟨hq,q⟩
 ·&⟨its,r',pl,hz⟩:=I.list hq
  have hlen:=r'.length
  @call_tuple_list pl.isList (fun h' kp=>?_) (by simp only [List.size_toArray]<;>omega)
  have I1:Inv X pins σ H { s with heap:=h' }:=I.kept (t':=s.toks) kp
  have I2:Inv X pins σ (upd H h'.objs.size (.tup ys)) { s with heap:=h'.push { cls:=.type "tuple",data:=.seq its.toArray } } :=
   I1.laid (t':=s.toks) (fun b o e=>Heap.get?_push_of_some _ e) (Nat.le_refl _) (show eA X.prog X.w _ _ _ (.tup ys) from ⟨hz,its,r',IsTup.new _ _⟩)
  !⟨.ref h'.objs.size,_,I2,rfl,q _ (I1.hok.fresh (Nat.le_refl _))⟩
 ·&⟨its,r',pl,hz⟩:=I.tuple hq
  !call_tuple_same pl ⟨.ref p,H,I,rfl,q⟩
def tyV (K:PySem.W.Frag) (T:String) (x:V) (H:Hp):Prop:=match x with
 | .str _=>T = "str"
 | .int _=>T = "int"
 | .ref p=>(T = "list" /\ ∃ xs,gH K H p xs)\/(T = "tuple" /\ ∃ o,K.lookup p=some o/\o.cls=.type "tuple" /\ o.dict=none) \/
   (T = "dict" /\ ((∃ kvs,H p=some (.dK kvs)) \/ ∃ kvs,H p=some (.dT kvs)))\/(T = "set" /\ ∃ S n,H p=some (.set S n))
 | _=>False
##T8 {pins:List (Addr×Obj)} {σ:St} {H:Hp} {s:Shared} {T:String} {x:V} {v:Value} (I:Inv X pins σ H s) (r:RelV x v) (ty:tyV X.K T x H) :
  s.TypeIs v T /\ ∀ a,v=.ref a -> ∃ ob,s.heap.get? a=some ob/\ob.dict=none:=by
 cases x with
 | str z =>
  &⟨t,rfl⟩:=r
  cases (show T = "str" from ty)
  !⟨typeIs_str s z t,fun _ e=>nomatch e⟩
 | int i =>
  &⟨t,rfl⟩:=r
  cases (show T = "int" from ty)
  !⟨typeIs_int s i t,fun _ e=>nomatch e⟩
 | ref p =>
  cases r
  rcases ty with ⟨rfl,xs,hq⟩ | ⟨rfl,o,hk,hc,hd⟩ | ⟨rfl,hk⟩ | ⟨rfl,S,n,hk⟩
  ·&⟨its,_,pl,_⟩:=I.list hq
   @⟨pl.isList.typeIs,fun a e=>?_⟩
   cases e
   &⟨o,n,e,c,hd,_⟩:=pl
   !⟨o,e,hd⟩
  ·@⟨⟨o,I.zH p o hk,hc⟩,fun a e=>?_⟩
   cases e
   !⟨o,I.zH _ o hk,hd⟩
  ·have z:∃ o,s.heap.get? p=some o/\o.ExactDict:=by
    rcases hk with ⟨kvs,hk⟩ | ⟨kvs,hk⟩
    ·&⟨_,_,_,_,o,_,_,e,ex,_⟩:=I.hok p _ hk
     !⟨o,e,ex⟩
    ·&⟨_,_,_,_,o,_,_,e,ex,_⟩:=I.hok p _ hk
     !⟨o,e,ex⟩
   &⟨o,e,ex⟩:=z
   @⟨⟨o,e,ex.1⟩,fun a e2=>?_⟩
   cases e2
   !⟨o,e,ex.2.1⟩
  ·&⟨o,_,_,_,e,ex,_⟩:=I.hok p _ hk
   @⟨⟨o,e,ex.1⟩,fun a e2=>?_⟩
   cases e2
   !⟨o,e,ex.2.1⟩
 | _=>!False.elim ty
def aJB (K:PySem.W.Frag) (T:String) (r:V->List V->Hp->VK->Prop) (to:TE):TE:=fun σ H Q=>to σ H fun x H1=>tyV K T x H1/\r x [] H1 Q
def tBM (K:PySem.W.Frag) (T:String) (r:V->List V->Hp->VK->Prop) (to:TE) (t:TA):TE:=fun σ H Q=>to σ H fun x H1=>tyV K T x H1/\t σ H1 fun xs H2=>r x xs H2 Q
variable {o e:Expr} {es:List Expr} {to:TE} {t:TA} {name:Str} {apos cpos:Pos} {T id:String} {r:V->List V->Hp->VK->Prop}
##aCP (pa:PlainAttrs T) (slot:Slot T name id) (hty:typeOf (.builtin id)=pure (.type "method_descriptor")) (hm:MtR X id r) (ho:PE X o to)
  (hbase:attributeBase o name X.env (eval o X.env)=eval o X.env:=by rfl) (hline:(apos.endLine == cpos.line)=true:=by rfl):PE X (.Call (.Attribute o name apos) [] [] cpos) (aJB X.K T r to):=by
 intro pins s σ H Q I h
 @wpAny_Call_method0_late hbase hline (dN (ho pins s σ H _ I h) fun v s1 ⟨x,H1,I1,r1,ty,q1⟩=>?_)
 &⟨h1,h2⟩:=T8 I1 r1 ty
 !⟨T,id,pa,slot,hty,h1,h2,Calls.callWith_builtin rfl (PySem.evalArgs_none (hm pins s1 σ H1 x [] v [] Q I1 r1 .nil q1))⟩
##aEd (pa:PlainAttrs T) (slot:Slot T name id) (hty:typeOf (.builtin id)=pure (.type "method_descriptor")) (hm:MtR X id r) (ho:PE X o to) (ha:PA X (e::es) t)
  (hbase:attributeBase o name X.env (eval o X.env)=eval o X.env:=by rfl)
  (hfew:((backTo cpos (starEach (e::es) X.env)).all (fun x=>!x.1)&&(backToKw cpos (keywordEach [] X.env)).all (fun x=>x.1.isSome)
   && decide ((e::es).length+([]:List Keyword).length+(if ([]:List Keyword).isEmpty then 0 else 1)<30))=true:=by rfl)
  (hline:(apos.endLine == cpos.line)=true:=by rfl) (hs:starEach (e::es) X.env=(false,eval e X.env)::starEach es X.env:=by rfl) (hplain:(backTo cpos (starEach es X.env)).any (·.1)=false:=by rfl) :
  PE X (.Call (.Attribute o name apos) (e::es) [] cpos) (tBM X.K T r to t):=by
 intro pins s σ H Q I h
 @wpAny_Call_method_late hbase hfew hline rfl (dN (ho pins s σ H _ I h) fun v s1 ⟨x,H1,I1,r1,ty,q1⟩=>?_)
 &⟨h1,h2⟩:=T8 I1 r1 ty
 @⟨T,id,pa,slot,hty,h1,h2,?_⟩
 have hA:=ha cpos pins s1 σ H1 _ I1 q1
 rw [hs] at hA ⊢
 @Calls.callWith_builtin (by show (false||(backTo cpos (starEach es X.env)).any (·.1))=false; rw [hplain]<;>rfl) (Calls.evalArgs_plain ?_)
 !dN hA fun us s2 hq5=>by &⟨vs,H2,I2,r2,q2⟩:=hq5; !hm pins s2 σ H2 x vs v us Q I2 r1 r2 q2
end
end L2
namespace L2
open PySem PySem.Spec PyProof.Rows
def MtM (X:Cx) (id:String) (r:V->List V->Hp->VK->Prop):Prop :=
 ∀ (pins:List (Addr×Obj)) (s:Shared) (σ:St) (H:Hp) (x:V) (xs:List V) (v:Value) (us:List Value) (Q:VK),Inv X pins σ H s->RelV x v->Vals xs us->r x xs H Q ->
  wpAny (model X.prog X.w) X.A (call (.builtin id) (v::us)) (EP X pins σ Q) X.xe s
##Vals.one:∀ {x:V} {us:List Value},Vals [x] us -> ∃ u,us=[u]/\RelV x u
 | _,_,.cons r .nil=>⟨_,rfl,r⟩
##Vals.zero:∀ {us:List Value},Vals [] us->us=[]
 | _,.nil=>rfl
##Vals.dropLast {xs:List V} {us:List Value} (h:Vals xs us):Vals xs.dropLast us.dropLast:=by
 induction h with
 | nil=>!.nil
 | cons r t ih =>
  cases t with
  | nil=>!.nil
  | cons q t'=>!.cons r ih
##Vals.eraseIdx:∀ {xs:List V} {us:List Value} (i:Nat),Vals xs us->Vals (xs.eraseIdx i) (us.eraseIdx i)
 | _,_,_,.nil=>.nil
 | _,_,0,.cons _ t=>t
 | _,_,i+1,.cons r t=>.cons r (Vals.eraseIdx i t)
##qR {α:Type} (l:List α):l.eraseIdx (l.length - 1)=l.dropLast:=by
 induction l with
 | nil=>rfl
 | cons a r ih =>
  cases r with
  | nil=>rfl
  | cons b r =>
   have e:(a::b::r).length - 1=((b::r).length - 1)+1:=by
    have h1:(a::b::r).length=r.length+2:=rfl
    have h2:(b::r).length=r.length+1:=rfl
    omega
   rw [e,List.eraseIdx_cons_succ,ih]
   all_goals rfl
##BN {α:Type}:∀ (l:List α) (i:Nat),(l.eraseIdx i).length<=l.length
 | [],_=>Nat.le_refl _
 | _::_,0=>Nat.le_succ _
 | _::r,i+1=>Nat.succ_le_succ (BN r i)
section
variable {X:Cx} {pins:List (Addr×Obj)} {σ:St} {H:Hp} {s:Shared} {l b:Addr} {xs ys zs:List V}
##Inv.Y9 {its its':List Value} {n:Nat} {f:Array Value->Array Value} {t':Nat} (I:Inv X pins σ H s) (hH:H l=some (.lst xs))
  (e:s.heap.get? l=some { cls:=.type "list",data:=.seq its.toArray n }) (hf:f its.toArray=its'.toArray) (hv:Vals ys its') (hz:ys.length<=sizeLine) :
  Inv X pins σ (upd H l (.lst ys)) { s with heap:=s.heap.update l (Obj.mapSeq f),toks:=t' }:=by
 have q:=PySem.IsL.update e f
 rw [hf] at q
 @I.write (x:=l) (e:=l) (by rw [hH]; !trivial) (.inl rfl) (fun b' u hb hu=>(Heap.get?_update_other s.heap (Obj.mapSeq f) (Ne.symm hb)).trans hu) ⟨_,q⟩ ?_
 !⟨hz,its',_,hv,q⟩
##Inv.aJC {its:List Value} {t':Nat} (I:Inv X pins σ H s) (hv:Vals ys its) (hz:ys.length<=sizeLine) :
  Inv X pins σ (upd H s.heap.objs.size (.lst ys)) { s with heap:=s.heap.push { cls:=.type "list",data:=.seq its.toArray },toks:=t' } :=
 I.laid (fun _ _ q=>Heap.get?_push_of_some _ q) (Nat.le_refl _) ⟨hz,its,0,hv,Heap.get?_push_size _ rfl⟩
##Inv.fresh (I:Inv X pins σ H s):H s.heap.objs.size=none:=I.hok.fresh (Nat.le_refl _)
##Inv.JF (I:Inv X pins σ H s) (hH:H l=some (.lst xs)):xs.length<=sizeLine /\ ∃ (its:List Value) (n:Nat),Vals xs its/\xs.length=its.length/\s.heap.get? l=some { cls:=.type "list",data:=.seq its.toArray n }:=by
 &⟨z,its,n,r,e⟩:=I.hok l _ hH
 !⟨z,its,n,r,r.length,e⟩
##T9 {n:Nat} (h:n<=sizeLine):Builtin.List.listTooLong n=false:=by
 ~Builtin.List.listTooLong
 !decide_eq_false °
end
section
variable {X:Cx}
def MJ:V->List V->Hp->VK->Prop:=fun x vs H Q=>∃ l xs y,x=.ref l/\vs=[y]/\H l=some (.lst xs)/\xs.length<sizeLine/\Q .non (upd H l (.lst (xs++[y])))
##BO:MtM X "list.append" MJ:=by
 intro pins s σ H x vs v us Q I rx rv h
 &⟨l,xs,y,rfl,rfl,hH,hz,q⟩:=h
 cases rx
 &⟨u,rfl,ru⟩:=rv.one
 &⟨z,its,n,r,hl,e⟩:=I.JF hH
 @call_meets F.slot_list_append ⟨_,e,rfl⟩ F.entry_list_append (F.args_list_append_2 _ _) (PySem.list_append l its.toArray n u (by rw [List.size_toArray]; omega)) ⟨e,?_⟩
 @⟨.non,_,I.Y9 (its':=its++[u]) hH e (by simp) (r.append (.cons ru .nil)) ?_,rfl,q⟩
 rw [List.length_append,List.length_singleton]
 omega
def MK:V->List V->Hp->VK->Prop:=fun x vs H Q=>∃ l b xs zs,x=.ref l/\vs=[.ref b]/\H l=some (.lst xs)/\H b=some (.lst zs)/\xs.length+zs.length<=sizeLine/\Q .non (upd H l (.lst (xs++zs)))
##OJ:MtM X "list.extend" MK:=by
 intro pins s σ H x vs v us Q I rx rv h
 &⟨l,b,xs,zs,rfl,rfl,hH,hB,hz,q⟩:=h
 cases rx
 &⟨u,rfl,ru⟩:=rv.one
 cases ru
 &⟨z,its,n,r,hl,e⟩:=I.JF hH
 &⟨z2,its2,n2,r2,hl2,e2⟩:=I.JF hB
 have hsz:its.toArray.size+its2.toArray.size<=sizeLine:=by rw [List.size_toArray,List.size_toArray]; omega
 have aEe:¬ (!its.toArray.isEmpty&&Builtin.List.listTooLong (its.toArray.size+its2.toArray.size))=true:=by
  rw [T9 hsz,Bool.and_false]
  !Bool.false_ne_true
 @call_meets F.slot_list_extend ⟨_,e,rfl⟩ F.entry_list_extend (F.args_list_extend_2 _ _)
  (AutoSeq1.list_extend_list_list_0 l its.toArray n b its2.toArray n2 aEe (by rw [List.size_toArray]; omega) °) ⟨e,e2,?_⟩
 @⟨.non,_,I.Y9 (its':=its++its2) hH e (by simp) (r.append r2) ?_,rfl,q⟩
 rw [List.length_append]
 omega
def aJD:V->List V->Hp->VK->Prop:=fun x vs H Q=>∃ l xs y,x=.ref l/\vs=[]/\H l=some (.lst xs)/\xs[xs.length - 1]? = some y/\Q y (upd H l (.lst xs.dropLast))
##aCQ:MtM X "list.pop" aJD:=by
 intro pins s σ H x vs v us Q I rx rv h
 &⟨l,xs,y,rfl,rfl,hH,hy,q⟩:=h
 cases rx
 have hus:=rv.zero
 subst hus
 &⟨z,its,n,r,hl,e⟩:=I.JF hH
 &⟨u,hu,ru⟩:=r.get hy
 have hy':its.toArray[its.toArray.size - 1]? = some u:=by
  show its.toArray[its.length - 1]? = some u
  rw [<- Array.getElem?_toList,<- hl]
  !hu
 @call_meets F.slot_list_pop ⟨_,e,rfl⟩ F.entry_list_pop (F.args_list_pop_1 _) (MeetsSeq.list_pop_last l its.toArray n u hy' (by rw [List.size_toArray]; omega)) ⟨e,?_⟩
 @⟨y,_,I.Y9 (its':=its.dropLast) hH e ?_ r.dropLast ?_,ru,q⟩
 ·show its.toArray.eraseIdxIfInBounds (its.toArray.size - 1)=its.dropLast.toArray
  rw [List.size_toArray,List.eraseIdxIfInBounds_toArray,qR]
 ·rw [List.length_dropLast]
  omega
def UA:V->List V->Hp->VK->Prop:=fun x vs H Q=>∃ l xs i k y,x=.ref l/\vs=[.int i]/\H l=some (.lst xs) /\ -(2 ^ 63)<=i/\i<2 ^ 63/\seqIndex? i xs.length=some k/\xs[k]? = some y/\Q y (upd H l (.lst (xs.eraseIdx k)))
##UB:MtM X "list.pop" UA:=by
 intro pins s σ H x vs v us Q I rx rv h
 &⟨l,xs,i,k,y,rfl,rfl,hH,h1,h2,hk,hy,q⟩:=h
 cases rx
 &⟨u,rfl,ru⟩:=rv.one
 &⟨t,rfl⟩:=ru
 &⟨z,its,n,r,hl,e⟩:=I.JF hH
 &⟨w,hw,w8⟩:=r.get hy
 @call_meets F.slot_list_pop ⟨_,e,rfl⟩ F.entry_list_pop (F.args_list_pop_2 _ _)
  (MeetsSeq.list_pop_at l its.toArray n i t k w (fitsIndex_both h1 h2) (by rw [List.size_toArray,<- hl]; !hk) (by rw [<- Array.getElem?_toList]; !hw) (by rw [List.size_toArray]; omega)) ⟨e,?_⟩
 @⟨y,_,I.Y9 (its':=its.eraseIdx k) hH e ?_ (r.eraseIdx k) ?_,w8,q⟩
 ·show its.toArray.eraseIdxIfInBounds k=(its.eraseIdx k).toArray
  rw [List.eraseIdxIfInBounds_toArray]
 ·have:=BN xs k
  omega
def aEf:R2:=fun x y H Q=>∃ l b xs zs,x=.ref l/\y=.ref b/\H l=some (.lst xs)/\H b=some (.lst zs)/\xs.length+zs.length<=sizeLine /\ ∀ p,H p=none->Q (.ref p) (upd H p (.lst (xs++zs)))
##UC:i6 X (binaryOp .Add) aEf:=by
 intro pins s σ H x y v u Q I rx ry h
 &⟨l,b,xs,zs,rfl,rfl,hH,hB,hz,q⟩:=h
 cases rx
 cases ry
 &⟨z,its,n,r,hl,e⟩:=I.JF hH
 &⟨z2,its2,n2,r2,hl2,e2⟩:=I.JF hB
 @PySem.P.add_list e e2 ?_ (by rw [List.size_toArray,List.size_toArray]; omega)
 have ea:its.toArray++its2.toArray=(its++its2).toArray:=by simp
 rw [ea]
 !⟨.ref _,_,I.aJC (t':=s.toks) (r.append r2) (by rw [List.length_append]; omega),rfl,q _ I.fresh⟩
end
section
variable {prog:Program} {w:World} {A:Around} {E:Value->Shared->Prop} {s:Shared}
set_option maxRecDepth 100000 in
end
section
variable {X:Cx}
end
end L2
namespace Att
open PySem PySem.W PySem.Calls PyProof.Rows
##vF {P:Params} {h:Heap}:∀ (ns:List Int) (vs:List Value),WellAll P h vs (ns.map WData.int)->IntsAre vs ns:=by
 intro ns
 induction ns with
 | nil =>
  intro vs w
  rw [List.map_nil] at w
  cases w
  !.nil
 | cons n ns ih =>
  intro vs w
  rw [List.map_cons] at w
  cases w with
  | cons a b =>
   cases a
   !.cons _ _ (ih _ b)
##OK {l:OpenLaw} {n:Nat} (hn:l.most=some n) {P:Params} {h:Heap} {args:List WData} {vals:List Value}
  (hpre:l.row.toRowW.claim.pre args=true) (hwl:WellAll P h vals args) :
  ∃ a vs ns,vals=[Value.ref a]/\args=[WData.list (ns.map WData.int)]/\h.get? a=some { cls:=.type "list",data:=.seq vs.toArray }/\IntsAre vs ns/\ns.length<=n:=by
 have hsh:WShape.hasAll [] args [.list .int]=true:=(pre_splitW hpre).1
 have hc:l.pre.holds [] { args:=args }=true:=(pre_splitW hpre).2
 &⟨d,r,rfl,h1,h2⟩:=hasAllW_cons hsh
 obtain rfl:=hasAllW_nil h2
 &⟨xs,rfl,h3⟩:=hasW_list h1
 &⟨ns,rfl⟩:=items_int h3
 have hlen:ns.length<=n:=by
  ~OpenLaw.pre at hc
  have h4:(WTm.not (.lt (.lit (.int (n:Int))) (.len (.arg 0)))).holds [] { args:=[.list (ns.map .int)] }=true:=by
   have h4:=(holds_andW hc).1
   rw [hn] at h4
   !h4
  have h5:=condW_of h4 (w_not (w_lt w_lit (w_len_list (w_arg rfl))))
  rw [List.length_map] at h5
  @Nat.le_of_not_lt fun q=>?_
  have q':(n:Int)<((ns.length:Nat):Int):=by omega
  first
   | (rw [decide_eq_true q'] at h5; !absurd h5 §)
   | (simp at h5; omega)
 cases hwl with
 | cons w1 w2 =>
  cases w2
  cases w1 with
  | list ho hall=>!⟨_,_,ns,rfl,rfl,ho,vF ns _ hall,hlen⟩
##OL (l:OpenLaw) (args:List WData):l.row.toRowW.claim.post args (.bool true) args=true :=
 postW_of (r:=l.row.toRowW) (X:=(true == true))
  (show WShape.has [] (.bool true) .bool=true by first | rfl | decide | simp [WShape.has,WShape.arms,WShape.armsAll])
  (show (WTm.eq .res (.lit (.bool true))).value [] { args:=args,res:=some (.bool true),after:=args }=some (.bool (true == true)) from w_eq_bool (w_res rfl) w_lit) rfl
##FV {l:OpenLaw} {n:Nat} {q:Program} {loose:List Str} {XP:(Str->Option Value)->Heap->Prop} {YP:World->Heap->Prop} {d:DefRec}
  (hn:l.most=some n) (hdf:d.params.defaults=[])
  (call:∀ (w:World) (s₀ s₁:Shared) (mg mb:Str->Option Value) (fa:Addr) (o:Obj) (pm cd doc:Value) (a:Addr) (vs:List Value) (ns:List Int),
   Ground q loose [] XP w s₀ mg mb s₁.heap->YP w s₁.heap ->
   s₁.heap.get? fa=some o->o.data=.func (docDef d.name d.params d.body d.scope pm cd doc)->s₁.heap.CodeRec cd d.name->mg d.name=some (.ref fa) ->
   s₁.heap.get? a=some { cls:=.type "list",data:=.seq vs.toArray }->IntsAre vs ns->ns.length<=n->s₁.gens=#[] ->
   codeAny (model l.prog w) callerA (.call (.ref fa) ⟨[.ref a],[]⟩) (fun r s'=>r=.ok (.ret (.bool true))/\OldK s₁.heap s'.heap/\s'.os=s₁.os/\AllBare s'.gens) s₁) :
  WalkO q loose XP YP l.row.toRowW d [] (fun f vs=>PySem.call f vs):=by
 intro w s₀ s₁ mg mb G Y fa o pm cd doc dV kV ho hd hcd hD hmg hg args vals as hpre hlay hrd hwl hlo
 obtain rfl:dV=.none:=Dflts.none hD hdf
 obtain rfl:kV=.none:=Dflts.noKw hD
 &⟨a,vs,ns,rfl,rfl,hobj,hints,hlen⟩:=OK hn hpre hwl
 @enter_call (codeAny_mono (call w s₀ s₁ mg mb fa o pm cd doc a vs ns G Y ho (fd_plain hd) hcd hmg hobj hints hlen hg) fun r s' hq=>?_)
 &⟨rfl,h2,h3,h4⟩:=hq
 !⟨.inl ⟨.bool true,.bool true,[],rfl,fun _=>rfl,.bool true,OL l _,fun _=>⟨List.Pairwise.nil,fun _ hm=>(nomatch hm)⟩⟩,h2,h3,h4⟩
section
variable {prog:Program} {w:World} {A:Around} {E:Value->Shared->Prop} {s:Shared} {K:Frag}
end
end Att
namespace L2
open PySem PySem.Spec PyProof.Rows
##pI:∀ {vs:List Value} {ns:List Int},IntsAre vs ns->Vals (ns.map V.int) vs
 | _,_,.nil=>.nil
 | _,_,.cons n t h=>.cons ⟨t,rfl⟩ (pI h)
def Only (H:Hp):Prop:=∀ b,H b=none \/ ∃ o xs,H b=some (.HL o (.lst xs))
##UD {P:Program} {w:World} {K:PySem.W.Frag} {mg mb:Str->Option Value} {CX:OH} {k:Nat} {fa a:Addr} {fd:FuncData} {x:Str} {sp:Sp} {s₁:Shared} {vs:List Value} {ns:List Int}
  (KX:K.In s₁.heap) (hns:s₁.heap.Ns mainGlobals mg) (hb:s₁.heap.Ns builtinsNs mb) (hbb:∀ x:Str,x ≠ "__name__" -> mb x=bootBuiltins x) (hlim:s₁.heap.NoLimit) (hg:s₁.gens=#[])
  (ha:s₁.heap.get? a=some { cls:=.type "list",data:=.seq vs.toArray }) (hi:IntsAre vs ns) (hl:ns.length<=sizeLine) (hr:lA k callerA)
  (F:∀ base:Heap,K.In base->base.Ns mainGlobals mg->aW P w K mg base CX k fa fd [x] sp) (hbind:∀ (s:Shared) (u:Value),BindsTo s fd ⟨[u],[]⟩ [(x,u)])
  (hsp:∀ H:Hp,Only H->gH K H a (ns.map V.int)->sp [.ref a] H (fun v _=>v=.bl true) fun _ _ _=>False)
  (hCX:∀ H e s',CX [] H s₁ (fun _ _ _=>False) e s'->False) :
  codeAny (model P w) callerA (.call (.ref fa) ⟨[.ref a],[]⟩) (fun r s'=>r=.ok (.ret (.bool true))/\OldK s₁.heap s'.heap/\s'.os=s₁.os/\AllBare s'.gens) s₁:=by
 have rv:=pI hi
 have lenV:=hi.length
 -- from an abstract heap in which nothing but the script may be tracked
 have core:∀ H:Hp,Only H->gH K H a (ns.map V.int)->pU P w H s₁.heap->(∀ b,H b≠none->b=a)->(H a≠none->K.lookup a=none) ->
   codeAny (model P w) callerA (.call (.ref fa) ⟨[.ref a],[]⟩) (fun r s'=>r=.ok (.ret (.bool true))/\OldK s₁.heap s'.heap/\s'.os=s₁.os/\AllBare s'.gens) s₁:=by
  intro H hO hS hok hA hK
  have ML:∀ {b:Addr} {o:Obj},s₁.heap.get? b=some o->H b=none->(DI s₁.heap H).get? b=some o:=fun e n=>TC e n
  have noA:∀ {b:Addr} {o:Obj} {es:Array DictEntry} {ep:Nat},s₁.heap.get? b=some o->o.data=.dict es ep->H b=none:=fun {b o es ep} e d=>by
   cases q:H b with
   | none=>rfl
   | some u =>
    have e':b=a:=hA b (by rw [q]; simp)
    subst e'
    rw [ha] at e; cases e
    have d':Data.seq vs.toArray _=Data.dict es ep:=d
    cases d'
  have nsK:∀ {b:Addr} {m:Str->Option Value},s₁.heap.Ns b m->(DI s₁.heap H).Ns b m:=fun {b m} ⟨o,es,ep,e,d,r⟩=>⟨o,es,ep,ML e (noA e d),d,r⟩
  have hKb:K.In (DI s₁.heap H):=fun b o e=>ML (KX b o e) (by
   cases q:H b with
   | none=>rfl
   | some u =>
    have e':b=a:=hA b (by rw [q]; simp)
    subst e'
    rw [hK (by rw [q]; simp)] at e; cases e)
  have hM:Mod K mg (DI s₁.heap H):=⟨hKb,nsK hns,⟨mb,nsK hb,hbb⟩,let ⟨mc,h1,h2⟩:=hlim; ⟨mc,nsK h1,h2⟩⟩
  have e0:Y0 P w K mg (DI s₁.heap H) callerA [] s₁ H:=⟨rfl,hM,fun b o e=>YL e,Nat.le_of_eq (N7 _ _),trivial,fun b hb=>absurd (show b∈([]:List Addr) from hb) (by simp),hok,.of_eq hg⟩
  @codeAny_mono ((F _ hKb (nsK hns)).run callerA [] s₁ H ⟨[.ref a],[]⟩ [.ref a] [.ref a] _ _ hr e0 (hbind s₁ (.ref a)) (.cons rfl .nil) (hsp H hO hS)) fun r s' h=>?_
  cases r with
  | error e=>!(hCX H e s' h).elim
  | ok fl =>
   cases fl with
   | next=>!False.elim h
   | brk=>!False.elim h
   | cont=>!False.elim h
   | ret u =>
    &⟨v,H',os,bare,un,hok',r',q⟩:=h
    have q':v=.bl true:=q
    subst q'
    obtain rfl:u=Value.bool true:=r'
    @⟨rfl,OldK.of_keep fun b o e=>?_,os,bare⟩
    cases q:H b with
    | none=>!un.keep b o e q (by intro z; !absurd (show b∈([]:List Addr) from z) (by simp)) (by simp)
    | some u =>
     rcases hO b with z | ⟨ob,xs,z⟩
     ·rw [q] at z; cases z
     ·have z2:=un.sB b ob _ z
      &⟨e1,_⟩:=hok b _ z
      &⟨e2,_⟩:=hok' b _ z2
      rw [e] at e1; cases e1
      !e2
 cases hk:K.lookup a with
 | some o =>
  -- the script is one of the module's own objects
  have e:=KX a o hk
  rw [ha] at e
  cases e
  @core (fun _=>none) (fun _=>.inl rfl) (.inr ⟨_,vs.toArray,_,hk,rfl,rfl,rfl,by rw [List.size_toArray,lenV]; !hl,¥rv⟩) (fun b u z=>by have z':(none:Option HO)=some u:=z; cases z') (fun b z=>absurd rfl z) fun z=>absurd rfl z
 | none =>
  @core (fun b=>if b=a then some (.HL { cls:=.type "list",data:=.seq vs.toArray } (.lst (ns.map V.int))) else none) (fun b=>?_) (.inl (.inr ⟨{ cls:=.type "list",data:=.seq vs.toArray },if_pos rfl⟩)) (fun b u z=>?_) (fun b z=>?_) fun _=>hk
  ·by_cases hb:b=a
   ·!.inr ⟨_,_,if_pos hb⟩
   ·!.inl (if_neg hb)
  ·by_cases hb:b=a
   ·have z':=(if_pos hb).symm.trans z
    cases z'
    subst hb
    !⟨ha,by rw [List.length_map]; !hl,vs,_,rv,ha⟩
   ·have z':=(if_neg hb).symm.trans z
    cases z'
  ·by_cases hb:b=a
   ·!hb
   ·!absurd (if_neg hb) z
end L2
namespace L2
open PySem PySem.Spec PyProof.Rows
abbrev KOf {K:PySem.W.Frag} {h:Heap} (_:K.In h):PySem.W.Frag:=K
##ZA {l:PySem.W.OpenLaw} {n k:Nat} {q:Program} {loose:List Str} {XP:(Str->Option Value)->Heap->Prop} {YP:World->Heap->Prop} {d:DefRec} {K:Params->PySem.W.Frag} {CX:World->OH} {sp:World->Sp} {x:Str}
  (hn:l.most=some n) (hn2:n<=sizeLine) (hdf:d.params.defaults=[]) (hr:lA k callerA)
  (hY:∀ (w:World) (h:Heap),YP w h->(K w.params).In h)
  (F:∀ (w:World) (mg:Str->Option Value) (fa:Addr) (h:Heap),(K w.params).In h->h.Ns mainGlobals mg->mg d.name=some (.ref fa) ->
   ∃ fd:FuncData,(∀ (s:Shared) (u:Value),BindsTo s fd ⟨[u],[]⟩ [(x,u)]) /\
    ∀ base:Heap,(K w.params).In base->base.Ns mainGlobals mg->aW l.prog w (K w.params) mg base (CX w) k fa fd [x] (sp w))
  (hsp:∀ (w:World) (H:Hp) (a:Addr) (ns:List Int),ns.length<=n->Only H->gH (K w.params) H a (ns.map V.int)->sp w [.ref a] H (fun v _=>v=.bl true) fun _ _ _=>False)
  (hCX:∀ (w:World) (H:Hp) (s:Shared) (e:Value) (s':Shared),CX w [] H s (fun _ _ _=>False) e s'->False) :
  PySem.W.WalkO q loose XP YP l.row.toRowW d [] (fun f vs=>PySem.call f vs):=by
 @Att.FV hn hdf fun w s₀ s₁ mg mb fa o pm cd doc a vs ns G Y ho hd hcd hmg hobj hints hlen hg=>?_
 have KX:=hY w _ Y
 &⟨fd,hb,hF⟩:=F w mg fa _ KX G.T.g hmg
 !UD KX G.T.g G.T.b G.T.builtins G.T.nolimit hg hobj hints (Nat.le_trans hlen hn2) hr hF hb (fun H hO hS=>hsp w H a ns hlen hO hS) fun H e s'=>hCX w H s₁ e s'
end L2
namespace L2
open PySem PySem.Spec PyProof.Rows
def bM (s:Stmt):Arguments:=match s with
 | .FunctionDef _ a _ _ _ _ _ _ _ _=>a
 | _=>{ posonlyargs:=[],args:=[],vararg:=none,kwonlyargs:=[],kw_defaults:=[],kwarg:=none,defaults:=[] }
def bE (s:Stmt):List Stmt:=match s with
 | .FunctionDef _ _ b _ _ _ _ _ _ _=>b
 | _=>[]
def aI (s:Stmt):Scope:=match s with
 | .FunctionDef _ _ _ _ _ _ sc _ _ _=>sc
 | _=>{ kind:=.function,names:=[],isGenerator:=false,isCoroutine:=false }
abbrev dO:OH:=fun _ _ _ _ _ _=>False
abbrev E0:XK:=fun _ _ _=>False
##aEg {X:Cx}:Passes dO X E0:=fun _ _ _ _ _ _ _ h=>h.elim
structure nU (K:PySem.W.Frag) (x qual:Str) (st:Stmt) (f:Addr) (fd:FuncData):Prop where
 ex:∃ (oc:Value) (od:Option Addr) (kV doc pm:Value) (an:Option Addr) (cdv ct:Value) (osl:Array (Option Value)),
  fd=PySem.W.fnOf x qual (bM st) (bE st) (aI st) .none kV doc pm an cdv ct/\K.lookup f=some ⟨oc,od,.func fd,osl⟩/\PySem.W.codeIn K cdv qual=true
 kp:PySem.W.keepIn K (.ref f)=true
section
variable {P:Program} {w:World} {K:PySem.W.Frag} {mg:Str->Option Value} {base:Heap}
##nU.ok {x qual:Str} {st:Stmt} {f:Addr} {fd:FuncData} {N ps:List Str} {k:Nat} {sp:Sp} (F:nU K x qual st f fd) (S:bH N ps (aI st)) (len:∀ vs H Q E,sp vs H Q E->vs.length=ps.length)
  (hbody:∀ (cdv:Value) (A:Around) (outer:List Env) (s:Shared) (H:Hp) (vs:List V) (Q:VK) (E:XK),lA k (A.deeper (envOfC qual (aI st) s.heap.objs.size f cdv))->sp vs H Q E ->
   ∃ t,HM (t6 dO P w K mg base N qual (aI st) f cdv A outer s H E).nox (bE st) t/\t { nx:=fun _ H'=>Q .non H',rt:=Q } (start N vs) H):aW P w K mg base dO (k+1) f fd ps sp:=by
 &⟨oc,od,kV,doc,pm,an,cdv,ct,osl,rfl,lk,hcd⟩:=F.ex
 @aA9 lk hcd S len fun A outer s H vs Q E hr hsp=>?_
 &⟨t,h,q⟩:=hbody cdv A outer s H vs Q E hr hsp
 !⟨t,h.nox,q⟩
##nU.binds {x qual:Str} {st:Stmt} {f:Addr} {fd:FuncData} {ps:List Str} (F:nU K x qual st f fd)
  (h:∀ (kV doc pm:Value) (an:Option Addr) (cdv ct:Value) (us:List Value),us.length=ps.length->bindArgs (PySem.W.fnOf x qual (bM st) (bE st) (aI st) .none kV doc pm an cdv ct) ⟨us,[]⟩=pure (ps.zip us)):Binds K fd ps []:=by
 &⟨oc,od,kV,doc,pm,an,cdv,ct,osl,rfl,lk,hcd⟩:=F.ex
 !.all (h kV doc pm an cdv ct)
##cN {x qual:Str} {st:Stmt} {f:Addr} {oc:Value} {od an:Option Addr} {osl:Array (Option Value)} {kV doc pm cdv ct:Value} (l:K.lookup f=some ⟨oc,od,.func (PySem.W.fnOf x qual (bM st) (bE st) (aI st) .none kV doc pm an cdv ct),osl⟩)
  (c:PySem.W.codeIn K cdv qual=true) (k:PySem.W.keepIn K (.ref f)=true):nU K x qual st f (PySem.W.fnOf x qual (bM st) (bE st) (aI st) .none kV doc pm an cdv ct):=⟨⟨oc,od,kV,doc,pm,an,cdv,ct,osl,rfl,l,c⟩,k⟩
end
section
variable {X:Cx}
end
def Same (H H':Hp):Prop:=∀ b o,H b=some o->H' b=some o
##Same.refl (H:Hp):Same H H:=fun _ _ h=>h
##Same.trans {H H1 H2:Hp} (a:Same H H1) (b:Same H1 H2):Same H H2:=fun c o h=>b c o (a c o h)
##Same.free {H H':Hp} (e:Same H H') {l:Addr} (h:H' l=Option.none):H l=Option.none:=by
 cases q:H l with
 | none=>rfl
 | some o =>
  rw [e l o q] at h
  cases h
end L2
namespace L2
open PySem PySem.Spec PyProof.Rows
section
variable {κ:Type} [DecidableEq κ]
def iB (kvs:List (κ×V)) (k:κ):Option V:=(kvs.find? fun kv=>decide (kv.1=k)).map (·.2)
def putK (kvs:List (κ×V)) (k:κ) (v:V):List (κ×V) :=
 if (kvs.any fun kv=>decide (kv.1=k))=true then kvs.map (fun kv=>if kv.1=k then (kv.1,v) else kv) else kvs++[(k,v)]
##fQ {p:κ×V} {r:List (κ×V)} {k:κ} (e:p.1=k):iB (p::r) k=some p.2:=by simp [iB,List.find?_cons,e]
##fR {p:κ×V} {r:List (κ×V)} {k:κ} (e:¬ p.1=k):iB (p::r) k=iB r k:=by simp [iB,List.find?_cons,e]
##oI (k:κ):∀ kvs:List (κ×V),(kvs.any fun kv=>decide (kv.1=k))=(iB kvs k).isSome
 | []=>rfl
 | p::r=>by
  rw [List.any_cons]
  by_cases e:p.1=k
  ·simp only [fQ e,decide_eq_true e,Bool.true_or,Option.isSome_some]
  ·rw [fR e,decide_eq_false e,Bool.false_or]; !oI k r
##FW (k j:κ) (y:V):∀ kvs:List (κ×V),iB (kvs.map fun kv=>if kv.1=k then (kv.1,y) else kv) j=(iB kvs j).map fun x=>if j=k then y else x
 | []=>rfl
 | p::r=>by
  have ih:=FW k j y r
  rw [List.map_cons]
  by_cases h:p.1=k
  ·rw [if_pos h]
   by_cases e:p.1=j
   ·rw [fQ (p:=(p.1,y)) e,fQ e,Option.map_some,if_pos (e.symm.trans h)]
   ·rw [fR (p:=(p.1,y)) e,fR e,ih]
  ·rw [if_neg h]
   by_cases e:p.1=j
   ·rw [fQ (p:=p) e,fQ e,Option.map_some,if_neg (fun z=>h (e.trans z))]
   ·rw [fR (p:=p) e,fR e,ih]
##BP (k j:κ) (y:V):∀ kvs:List (κ×V),iB kvs k=none->iB (kvs++[(k,y)]) j=if j=k then some y else iB kvs j
 | [],_=>by
  by_cases e:k=j
  ·rw [if_pos e.symm]; !fQ (p:=(k,y)) e
  ·rw [if_neg (fun z=>e z.symm)]; !fR (p:=(k,y)) e
 | p::r,hn=>by
  rw [List.cons_append]
  have hk:¬ p.1=k:=fun z=>by rw [fQ z] at hn; cases hn
  rw [fR hk] at hn
  have ih:=BP k j y r hn
  by_cases e:p.1=j
  ·rw [fQ e,fQ e,if_neg (fun z=>hk (e.trans z))]
  ·rw [fR e,fR e,ih]
##UE (kvs:List (κ×V)) (k j:κ) (y:V):iB (putK kvs k y) j=if j=k then some y else iB kvs j:=by
 ~putK
 by_cases a:(kvs.any fun kv=>decide (kv.1=k))=true
 ·rw [if_pos a,FW]
  rw [oI] at a
  by_cases e:j=k
  ·&⟨x,hx⟩:=Option.isSome_iff_exists.mp a
   rw [if_pos e,e,hx,Option.map_some,if_pos rfl]
  ·rw [if_neg e]
   cases iB kvs j with
   | none=>rfl
   | some x=>rw [Option.map_some,if_neg e]
 ·rw [if_neg a]
  @BP k j y kvs ?_
  rw [oI] at a
  cases q:iB kvs k with
  | none=>rfl
  | some x=>rw [q] at a; !(a rfl).elim
##uR (kvs:List (κ×V)) (k:κ) (v:V):(putK kvs k v).length<=kvs.length+1:=by
 ~putK
 split
 ·rw [List.length_map]; omega
 ·rw [List.length_append,List.length_cons,List.length_nil]; omega
##UF {kvs:List (κ×V)} {k:κ} (v:V) (h:iB kvs k=none):putK kvs k v=kvs++[(k,v)]:=by
 ~putK
 rw [oI,h]
 !if_neg §
##oD.pJ {o:Option V} {u:Option Value} (r:oD o u):o.isSome=u.isSome:=by
 cases o with
 | none=>cases u with
  | none=>rfl
  | some _=>!(show False from r).elim
 | some _=>cases u with
  | none=>!(show False from r).elim
  | some _=>rfl
##oD.getD {o:Option V} {u:Option Value} {d:V} {d':Value} (r:oD o u) (rd:RelV d d'):RelV (o.getD d) (u.getD d'):=by
 cases o with
 | none=>cases u with
  | none=>!rd
  | some _=>!(show False from r).elim
 | some _=>cases u with
  | none=>!(show False from r).elim
  | some _=>!r
##KV.val {kvs:List (κ×V)} {vs:List (κ×Value)} (r:KV kvs vs) (k:κ):oD (iB kvs k) (valueAt vs k):=by
 ~KV at r
 induction r with
 | nil=>!True.intro
 | @cons p q ps qs h t ih =>
  &⟨h1,h2⟩:=h
  by_cases e:p.1=k
  ·have e':q.1=k:=h1.symm.trans e
   have b:valueAt (q::qs) k=some q.2:=by simp [valueAt,List.find?_cons,e']
   rw [fQ e,b]; !h2
  ·have e':¬ q.1=k:=fun z=>e (h1.trans z)
   have b:valueAt (q::qs) k=valueAt qs k:=by simp [valueAt,List.find?_cons,e']
   rw [fR e,b]; !ih
##KV.any {kvs:List (κ×V)} {vs:List (κ×Value)} (r:KV kvs vs) (k:κ):(kvs.any fun kv=>decide (kv.1=k))=vs.any fun kv=>decide (kv.1=k):=by
 ~KV at r
 induction r with
 | nil=>rfl
 | cons h t ih=>rw [List.any_cons,List.any_cons,ih,h.1]
##KV.repl {kvs:List (κ×V)} {vs:List (κ×Value)} (r:KV kvs vs) (k:κ) {y:V} {u:Value} (ry:RelV y u) :
  KV (kvs.map fun kv=>if kv.1=k then (kv.1,y) else kv) (vs.map fun kv=>if kv.1=k then (kv.1,u) else kv):=by
 ~KV at r ⊢
 induction r with
 | nil=>!.nil
 | @cons p q ps qs h t ih =>
  rw [List.map_cons,List.map_cons]
  @.cons ?_ ih
  &⟨h1,h2⟩:=h
  by_cases e:p.1=k
  ·rw [if_pos e,if_pos (h1.symm.trans e)]; !⟨h1,ry⟩
  ·rw [if_neg e,if_neg (fun z=>e (h1.trans z))]; !⟨h1,h2⟩
##KV.put {kvs:List (κ×V)} {vs:List (κ×Value)} (r:KV kvs vs) (k:κ) {y:V} {u:Value} (ry:RelV y u):KV (putK kvs k y) (stored vs k u):=by
 ~putK stored
 rw [r.any k]
 by_cases e:(vs.any fun kv=>decide (kv.1=k))=true
 ·rw [if_pos e,if_pos e]; !r.repl k ry
 ·rw [if_neg e,if_neg e]; !Paired.snoc r ⟨rfl,ry⟩
##KV.length {kvs:List (κ×V)} {vs:List (κ×Value)} (r:KV kvs vs):kvs.length=vs.length:=Paired.length r
end
##p6 {P:Program} {w:World} {k:Key} {u:Value} (r:RelV (kV k) u):(bB P w).is k u=true:=by
 cases k with
 | inl i=>&⟨t,e⟩:=(show ∃ t,u=Value.int i t from r); subst e; !FO P w i t
 | inr x=>&⟨t,e⟩:=(show ∃ t,u=Value.str x t from r); subst e; !FP P w x t
##BQ {P:Program} {w:World}:∀ {ks:List Key} {us:List Value},Vals (ks.map kV) us->ItemsAre (bB P w) ks us
 | [],_,r=>by rw [List.map_nil] at r; cases r; !.nil
 | k::ks,_,r=>by
  rw [List.map_cons] at r
  cases r with
  | cons h t=>!.cons (p6 h) (BQ t)
abbrev KT (H:Hp):List (List Key×V)->List (List Key×Addr×Value)->Prop:=Paired fun p q=>p.1=q.1/\H q.2.1=some (.tup (p.1.map kV))/\RelV p.2 q.2.2
##KT.val {H:Hp} {kvs:List (List Key×V)} {xs:List (List Key×Addr×Value)} (r:KT H kvs xs) (k:List Key):oD (iB kvs k) ((atKey xs k).map (·.2)):=by
 induction r with
 | nil=>!True.intro
 | @cons p q ps qs h t ih =>
  &⟨h1,_,h2⟩:=h
  by_cases e:p.1=k
  ·have e':q.1=k:=h1.symm.trans e
   have b:atKey (q::qs) k=some q.2:=by simp [atKey,List.find?_cons,e']
   rw [fQ e,b]; !h2
  ·have e':¬ q.1=k:=fun z=>e (h1.trans z)
   have b:atKey (q::qs) k=atKey qs k:=by simp [atKey,List.find?_cons,e']
   rw [fR e,b]; !ih
##KT.repl {H:Hp} {kvs:List (List Key×V)} {xs:List (List Key×Addr×Value)} (r:KT H kvs xs) (k:List Key) {y:V} {u:Value} (ry:RelV y u) :
  KT H (kvs.map fun kv=>if kv.1=k then (kv.1,y) else kv) (xs.map (putAt k u)):=by
 induction r with
 | nil=>!.nil
 | @cons p q ps qs h t ih =>
  rw [List.map_cons,List.map_cons]
  @.cons ?_ ih
  &⟨h1,h2,h3⟩:=h
  ~putAt
  by_cases e:p.1=k
  ·rw [if_pos e,if_pos (h1.symm.trans e)]; !⟨h1,h2,ry⟩
  ·rw [if_neg e,if_neg (fun z=>e (h1.trans z))]; !⟨h1,h2,h3⟩
##KT.put {H:Hp} {kvs:List (List Key×V)} {xs:List (List Key×Addr×Value)} (r:KT H kvs xs) (k:List Key) {b:Addr} {y:V} {u:Value} (hb:H b=some (.tup (k.map kV))) (ry:RelV y u) :
  KT H (putK kvs k y) (storedH xs k b u):=by
 have e:(kvs.any fun kv=>decide (kv.1=k))=(atKey xs k).isSome:=by
  rw [oI,(r.val k).pJ,Option.isSome_map]
 ~putK storedH
 rw [e]
 by_cases q:(atKey xs k).isSome=true
 ·rw [if_pos q,if_pos q]; !r.repl k ry
 ·rw [if_neg q,if_neg q]; !Paired.snoc r ⟨rfl,hb,ry⟩
##KT.keeps {H H':Hp} {kvs:List (List Key×V)} {xs:List (List Key×Addr×Value)} (r:KT H kvs xs) (ht:∀ b ys,H b=some (.tup ys)->H' b=some (.tup ys)):KT H' kvs xs :=
 Paired.aBe r fun _ _ z=>⟨z.1,ht _ _ z.2.1,z.2.2⟩
section
variable {P:Program} {w:World} {H:Hp} {h:Heap} {a:Addr}
##aAc {u:HO} (ok:pU P w H h) (e:Rd H a u):eA P w H h a u:=e.ok ok
##UG {kvs:List (Key×V)} (ok:pU P w H h) (e:Rd H a (.dK kvs)):kvs.length<=sizeLine/\(a == sysModules)=false /\ ∃ vs,KV kvs vs/\h.DictOf (bB P w) a vs :=
 show eA P w H h a (.dK kvs) from aAc ok e
##aEh {kvs:List (Key×V)} (ok:pU P w H h) (e:H a=some (.dK kvs)):kvs.length<=sizeLine/\(a == sysModules)=false /\ ∃ vs,KV kvs vs/\h.DictOf (bB P w) a vs:=UG ok (.inl e)
##DU {ks:List Key} (ok:pU P w H h) (e:H a=some (.tup (ks.map kV))):(tupleKind (bB P w)).is h ks a:=by
 &⟨_,its,r,o,h1,h2,n,h3⟩:=(show eA P w H h a (.tup (ks.map kV)) from ok a _ e)
 !⟨o,its.toArray,n,h1,h2,h3,¥BQ r⟩
##UH {kvs:List (List Key×V)} (ok:pU P w H h) (e:Rd H a (.dT kvs)):kvs.length<=sizeLine/\(a == sysModules)=false /\
  ∃ xs,KT H kvs xs/\h.DictOfH (tupleKind (bB P w)) a xs:=by
 &⟨z,y,xs,r,o,es,ep,h1,h2,h3,h4,h5⟩:=(show eA P w H h a (.dT kvs) from aAc ok e)
 @⟨z,y,xs,r,o,es,ep,h1,h2,h3,h4,fun x hx=>?_,h5⟩
 have all:∀ {l:List (List Key×V)} {m:List (List Key×Addr×Value)},KT H l m -> ∀ x∈m,(tupleKind (bB P w)).is h x.1 x.2.1:=by
  intro l m q
  induction q with
  | nil=>intro x hx; !nomatch hx
  | @cons p q ps qs hq t ih =>
   intro x hx
   rcases List.mem_cons.mp hx with e | hx
   ·subst e
    !DU ok (by rw [<- hq.1]; !hq.2.1)
   ·!ih x hx
 !all r x hx
##aEi {kvs:List (List Key×V)} (ok:pU P w H h) (e:H a=some (.dT kvs)):kvs.length<=sizeLine/\(a == sysModules)=false /\
  ∃ xs,KT H kvs xs/\h.DictOfH (tupleKind (bB P w)) a xs:=UH ok (.inl e)
end
def FX (H:Hp) (a:Addr) (y:V) (r:Option V):Prop :=
 (∃ kvs k,Rd H a (.dK kvs)/\y=kV k/\r=iB kvs k) \/ ∃ kvs k b,Rd H a (.dT kvs)/\y=.ref b/\H b=some (.tup (k.map kV))/\r=iB kvs k
def JG (H:Hp) (a:Addr) (y v:V) (H':Hp):Prop :=
 (∃ kvs k,H a=some (.dK kvs)/\y=kV k/\kvs.length<sizeLine/\H' = upd H a (.dK (putK kvs k v))) \/
 ∃ kvs k b,H a=some (.dT kvs)/\y=.ref b/\H b=some (.tup (k.map kV))/\kvs.length<sizeLine/\H' = upd H a (.dT (putK kvs k v))
##FX.k {H:Hp} {a:Addr} {kvs:List (Key×V)} {k:Key} (e:H a=some (.dK kvs)):FX H a (kV k) (iB kvs k):=.inl ⟨kvs,k,.inl e,rfl,rfl⟩
##FX.t {H:Hp} {a b:Addr} {kvs:List (List Key×V)} {k:List Key} (e:H a=some (.dT kvs)) (eb:H b=some (.tup (k.map kV))):FX H a (.ref b) (iB kvs k):=.inr ⟨kvs,k,b,.inl e,rfl,eb,rfl⟩
##JG.k {H:Hp} {a:Addr} {kvs:List (Key×V)} {k:Key} {v:V} (e:H a=some (.dK kvs)) (hl:kvs.length<sizeLine):JG H a (kV k) v (upd H a (.dK (putK kvs k v))):=.inl ⟨kvs,k,e,rfl,hl,rfl⟩
##JG.t {H:Hp} {a b:Addr} {kvs:List (List Key×V)} {k:List Key} {v:V} (e:H a=some (.dT kvs)) (eb:H b=some (.tup (k.map kV))) (hl:kvs.length<sizeLine) :
  JG H a (.ref b) v (upd H a (.dT (putK kvs k v))):=.inr ⟨kvs,k,b,e,rfl,eb,hl,rfl⟩
section
variable {X:Cx} {pins:List (Addr×Obj)} {σ:St} {H:Hp} {s:Shared} {a:Addr} {y v:V} {u r:Value} {o:Option V} {A:Around} {E:Value->Shared->Prop}
##Inv.big (I:Inv X pins σ H s):sysModules<s.heap.objs.size:=by
 have h:mainGlobals<s.heap.objs.size:=(I.mod.glob.keeps I.bk).lt
 !Nat.lt_trans § h
##OM {Q:Value->Shared->Prop} (hu:A.units+1<cLine) (I:Inv X pins σ H s) (g:FX H a y (some v)) (ry:RelV y u) (h:∀ w' s',Inv X pins σ H s'->RelV v w'->Q w' s') :
  wpAny (model X.prog X.w) A (getItem (.ref a) u) Q E s:=by
 rcases g with ⟨kvs,k,e,ey,l⟩ | ⟨kvs,k,b,e,ey,eb,l⟩
 ·subst ey
  &⟨z,hd,vs,rel,dd⟩:=UG I.hok e
  &⟨w',hw,w8⟩:=oD.some_of (v:=v) (o:=valueAt vs k) (by rw [l]; !rel.val k)
  !wpAny_getItem_of (p6 ry) dd.mapOf hw (h w' _ (I.tok _) w8)
 ·subst ey
  cases (show u=Value.ref b from ry)
  &⟨z,hd,xs,rel,dd⟩:=UH I.hok e
  &⟨w',hw,w8⟩:=oD.some_of (v:=v) (o:=(atKey xs k).map (·.2)) (by rw [l]; !rel.val k)
  &⟨p,hp,hp2⟩:=Option.map_eq_some_iff.mp hw
  @wpAny_getItem_heap (tupleKind_room_in1 hu) (DU I.hok eb) dd hp ?_
  rw [hp2]
  !h w' _ (I.tok _) w8
##pK {h':Heap} {t':Nat} {ob:HO} (I:Inv X pins σ H s) (mu:Mut (H a)) (hs:Heap.SameBut a s.heap h') (he:∃ q,h'.get? a=some q) (new:eA X.prog X.w (upd H a ob) h' a ob) :
  Inv X pins σ (upd H a ob) { s with heap:=h',toks:=t' } :=
 I.write (x:=a) (e:=a) mu (.inl rfl) (fun b q hb z=>(hs.2 b hb).trans z) he new
##aCR {P:Program} {w:World} {H':Hp} {h':Heap} {kvs:List (Key×V)} {vs:List (Key×Value)} (z:kvs.length<=sizeLine) (hd:(a == sysModules)=false) (rel:KV kvs vs) (dd:h'.DictOf (bB P w) a vs) :
  eA P w H' h' a (.dK kvs):=⟨z,hd,vs,rel,dd⟩
##ON {H':Hp} {Q:Unit->Shared->Prop} (hu:A.units+1<cLine) (I:Inv X pins σ H s) (g:JG H a y v H') (ry:RelV y u) (rv:RelV v r) (h:∀ s',Inv X pins σ H' s'->Q () s') :
  wpAny (model X.prog X.w) A (setItem (.ref a) u r) Q E s:=by
 rcases g with ⟨kvs,k,e,ey,l,eH⟩ | ⟨kvs,k,b,e,ey,eb,l,eH⟩
 ·subst ey eH
  &⟨z,hd,vs,rel,dd⟩:=aEh I.hok e
  have hz:vs.length<=sizeLine:=by rw [<- rel.length]; !z
  have hl:(putK kvs k v).length<=sizeLine:=by have:=uR kvs k v; omega
  @wpAny_setItem_pairs (hsz:=hz) (p6 ry) dd fun h' QZ hs=>h _ ?_
  have he:∃ q,h'.get? a=some q:=let ⟨q,_,_,hq,_⟩:=QZ; ⟨q,hq⟩
  !pK I (by rw [e]; !True.intro) hs he (aCR hl hd (rel.put k rv) QZ)
 ·subst ey eH
  cases (show u=Value.ref b from ry)
  &⟨z,hd,xs,rel,dd⟩:=aEi I.hok e
  have hz:xs.length<=sizeLine:=by rw [<- Paired.length rel]; !z
  have hl:(putK kvs k v).length<=sizeLine:=by have:=uR kvs k v; omega
  @wpAny_setItem_heap (hsz:=hz) (tupleKind_room_in1 hu) (DU I.hok eb) dd fun h' QZ hs=>h _ ?_
  &⟨q,es,ep,hq,h2,h3,h4,_,h5⟩:=QZ
  @pK I (by rw [e]; !True.intro) hs ⟨q,hq⟩ ⟨hl,hd,_,(rel.put k eb rv).keeps fun c ys ec=>?_,q,es,ep,hq,h2,h3,h4,h5⟩
  rw [bQ (aA2 ec e (fun z=>nomatch z))]
  !ec
end
section
variable {X:Cx} {pins:List (Addr×Obj)} {σ:St} {H:Hp} {s:Shared} {a:Addr} {kvs:List (Key×V)} {k:Key} {u:Value} {A:Around} {E:Value->Shared->Prop}
end
def OO (i:Expr):Prop:=∀ ov iv,subscripted i false ov iv=operate [ov,iv] (getItem ov iv)
##MM {prog:Program} {w:World} {A:Around} {E:Value->Shared->Prop} {s:Shared} {env:Env} {value slice:Expr} {pos:Pos} {T id:String} {Q:Value->Shared->Prop}
  (hl:typeLookup (.type T) "__getitem__" = pure (some (.builtin id))) (hs:OO slice)
  (h:wpAny (model prog w) A (eval value env) (fun o s₁=>wpAny (model prog w) A (eval slice env) (fun i s₂=>s₂.TypeIs o T/\wpAny (model prog w) A (getItem o i) Q E s₂) E s₁) E s) :
  wpAny (model prog w) A (eval (.Subscript value slice pos) env) Q E s:=by
 @Subscript_ (wpAny_mono h (fun o s₁ h₁=>wpAny_mono h₁ (fun i s₂ h₂=>?_) fun _ _ x=>x) fun _ _ x=>x)
 &⟨hT,h₂⟩:=h₂
 ~subscriptTail
 @wpAny_bind ?_
 rw [getitemInPython_of_ne hT.not_modules]
 @wpAny_bind (wpAny_specialOf hT hl ?_)
 have fin:wpAny (model prog w) A (subscripted slice false o i) (fun r s₃=>wpAny (model prog w) A (letTemporaryGo value o r >>= fun _=>pure r) Q E s₃) E s₂:=by
  rw [hs o i]
  !wpAny_operating (wpAny_mono h₂ (fun r s₃ h₃=>wpAny_bind (wpAny_letTemporaryGo (wpAny_pure h₃))) fun _ _ x=>x)
 first
  | !wpAny_pure (wpAny_bind fin)
  | !wpAny_bind (wpAny_pure (wpAny_bind fin))
  | !wpAny_bind fin
##FY {X:Cx} {pins:List (Addr×Obj)} {σ:St} {H:Hp} {s:Shared} {a:Addr} {y:V} {o:Option V} (I:Inv X pins σ H s) (g:FX H a y o):s.TypeIs (.ref a) "dict" := by
 rcases g with ⟨kvs,k,e,_,_⟩ | ⟨kvs,k,b,e,_,_,_⟩
 ·&⟨_,_,vs,_,dd⟩:=UG I.hok e
  !dd.typeIs
 ·&⟨_,_,xs,_,dd⟩:=UH I.hok e
  !dd.typeIs
def aEj (td ty:TE):TE:=fun σ H Q=>td σ H fun x H1=>ty σ H1 fun y H2=>∃ a v,x=.ref a/\FX H2 a y (some v)/\Q v H2
def aEk (td ty tv:TE):TS:=fun D σ H=>tv σ H fun v H1=>td σ H1 fun x H2=>ty σ H2 fun y H3=>∃ a H4,x=.ref a/\JG H3 a y v H4/\D.nx σ H4
section
variable {X:Cx} {o i e value:Expr} {pos pos' tpos:Pos} {td ty tv:TE}
##ZC (hu:X.A.units+1<cLine) (ho:PE X o td) (hi:PE X i ty) (hs:OO i):PE X (.Subscript o i pos) (aEj td ty):=by
 intro pins s σ H Q I h
 @MM PySem.F.slot_dict_getitem.lookup hs (dN (ho pins s σ H _ I h) fun u s1 ⟨x,H1,I1,rx,q1⟩=>dN (hi pins s1 σ H1 _ I1 q1) fun iv s2 ⟨y,H2,I2,ry,a,v,ex,g,q2⟩=>?_)
 subst ex
 obtain rfl:u=Value.ref a:=rx
 !⟨FY I2 g,OM hu I2 g ry fun w' s3 I3 w8=>⟨v,H2,I3,w8,q2⟩⟩
##ZD (hu:X.A.units+1<cLine) (ho:PE X o td) (hi:PE X i ty) (hv:PE X value tv) (hs:swapsWith value (some (.Subscript o i pos')) pos.line X.env=pure false) :
  PS X (.Assign [.Subscript o i pos'] value pos) (aEk td ty tv):=by
 intro pins s σ H D I h
 @wpAny_Assign_Subscript (dN (hv pins s σ H _ I h) fun r s1 ⟨v,H1,I1,rv,q1⟩=>dN (ho pins s1 σ H1 _ I1 q1) fun u s2 ⟨x,H2,I2,rx,q2⟩=>dN (hi pins s2 σ H2 _ I2 q2) fun iv s3 ⟨y,H3,I3,ry,a,H4,ex,g,q3⟩=>?_) hs
 subst ex
 obtain rfl:u=Value.ref a:=rx
 !ON hu I3 g ry rv fun s4 I4=>⟨σ,H4,I4,q3⟩
end
##UI {P:Program} {w:World} {H:Hp} (h:Heap) (hb:sysModules<h.objs.size):eA P w H (h.push { cls:=.type "dict",data:=.dict #[] }) h.objs.size (.dK []) :=
 ⟨Nat.zero_le _,beq_eq_false_iff_ne.mpr (Ne.symm (Nat.ne_of_lt hb)),[],.nil,Heap.DictOf.new h⟩
def aCS:TE:=fun _ H Q=>∀ p,H p=none->Q (.ref p) (upd H p (.dK []))
section
variable {X:Cx} {pos:Pos}
##UJ:PE X (.Dict [] [] pos) aCS:=fun pins s σ H Q I h =>
 wpAny_Dict_empty ⟨.ref s.heap.objs.size,_,I.laid (a:=s.heap.objs.size) (o:=.dK []) (t':=s.toks) (fun _ _ q=>Heap.get?_push_of_some _ q) (Nat.le_refl _) (UI s.heap I.big),rfl,h _ (I.hok.fresh (Nat.le_refl _))⟩
end
def UK:List (TE×TE)->St->Hp->(List (V×V)->Hp->Prop)->Prop
 | [],_,H,Q=>Q [] H
 | (tk,tv)::r,σ,H,Q=>tk σ H fun x H1=>tv σ H1 fun y H2=>UK r σ H2 fun ps H3=>Q ((x,y)::ps) H3
abbrev VV:List (V×V)->List (Value×Value)->Prop:=Paired fun p q=>RelV p.1 q.1/\RelV p.2 q.2
def PPs (X:Cx) (pos:Pos) (keys:List (Option Expr)) (values:List Expr) (trs:List (TE×TE)):Prop :=
 ∀ (pins:List (Addr×Obj)) (s:Shared) (σ:St) (H:Hp) (Q:List (V×V)->Hp->Prop),Inv X pins σ H s->UK trs σ H Q ->
  wpAny (model X.prog X.w) X.A (evalPairs (pairTrees keys values X.env pos)) (fun vs s'=>∃ ps H',Inv X pins σ H' s'/\VV ps vs/\Q ps H') X.xe s
##ZE {X:Cx} {pos:Pos}:PPs X pos [] [] []:=fun pins s σ H Q I h=>pairTrees_nil_walk ⟨[],H,I,.nil,h⟩
##UL {X:Cx} {pos:Pos} {k v:Expr} {ks:List (Option Expr)} {vs:List Expr} {tk tv:TE} {trs:List (TE×TE)} (hk:PE X k tk) (hv:PE X v tv) (hr:PPs X pos ks vs trs) :
  PPs X pos (some k::ks) (v::vs) ((tk,tv)::trs):=fun pins s σ H Q I h =>
 pairTrees_cons_walk (dN (hk pins s σ H _ I h) fun u s1 ⟨x,H1,I1,rx,q1⟩=>dN (hv pins s1 σ H1 _ I1 q1) fun w2 s2 ⟨y,H2,I2,ry,q2⟩ =>
  dN (hr pins s2 σ H2 _ I2 q2) fun ws s3 ⟨ps,H3,I3,rel,q3⟩=>⟨(x,y)::ps,H3,I3,.cons ⟨rx,ry⟩ rel,q3⟩)
structure M1 (X:Cx) (o:Expr) (m:Str) (apos:Pos) (e:Expr) (cpos:Pos):Prop where
 base:attributeBase o m X.env (eval o X.env)=eval o X.env
 few:((backTo cpos (starEach [e] X.env)).all (fun x=>!x.1)&&(backToKw cpos (keywordEach [] X.env)).all (fun x=>x.1.isSome)
  && decide (([e]:List Expr).length+([]:List Keyword).length+(if ([]:List Keyword).isEmpty then 0 else 1)<30))=true
 line:(apos.endLine == cpos.line)=true
 trees:backTo cpos (starEach [e] X.env)=[(false,eval e X.env)]
structure M2 (X:Cx) (o:Expr) (m:Str) (apos:Pos) (e f:Expr) (cpos:Pos):Prop where
 base:attributeBase o m X.env (eval o X.env)=eval o X.env
 few:((backTo cpos (starEach [e,f] X.env)).all (fun x=>!x.1)&&(backToKw cpos (keywordEach [] X.env)).all (fun x=>x.1.isSome)
  && decide (([e,f]:List Expr).length+([]:List Keyword).length+(if ([]:List Keyword).isEmpty then 0 else 1)<30))=true
 line:(apos.endLine == cpos.line)=true
 trees:backTo cpos (starEach [e,f] X.env)=[(false,eval e X.env),(false,eval f X.env)]
section
variable {X:Cx} {pins:List (Addr×Obj)} {σ:St} {H:Hp} {s:Shared} {a:Addr} {y d:V} {u r:Value} {o:Option V} {A:Around} {E:Value->Shared->Prop}
end
section
variable {X:Cx} {o e f:Expr} {apos cpos:Pos} {td ty tx:TE}
end
section
variable {X:Cx} {pins:List (Addr×Obj)} {σ:St} {H:Hp} {s:Shared} {a:Addr} {kvs:List (Key×V)} {A:Around} {E:Value->Shared->Prop}
end
section
variable {X:Cx} {pins:List (Addr×Obj)} {σ:St} {H:Hp} {s:Shared} {a:Addr} {y:V} {u:Value} {A:Around} {E:Value->Shared->Prop}
end
end L2
namespace L2
open PySem PySem.Spec PyProof.Rows
section
variable {X:Cx}
end
section
variable {κ:Type} [DecidableEq κ]
end
end L2
end
section
namespace L3
open PySem L2
def Scr (K:PySem.W.Frag) (H:Hp) (a:Addr) (ns:List Int):Prop:=(∃ o,H a=some (.HL o (.lst (ns.map V.int))))\/gH K (fun _=>none) a (ns.map V.int)
mutual
def Dn (K:PySem.W.Frag) (S:Addr->Prop) (H:Hp):D->V->Prop
 | .non,v=>v=.non
 | .bl b,v=>v=.bl b
 | .int i,v=>v=.int i
 | .str x,v=>v=.str x
 | .tup ds,v=>∃ a xs,v=.ref a/\H a=some (.tup xs)/\bC K S H ds xs
 | .lst ds,v=>∃ a xs,v=.ref a/\H a=some (.lst xs)/\S a/\bC K S H ds xs
 | .jW ns,v=>∃ a,v=.ref a/\Scr K H a ns
 | .lB ks ds,v=>∃ a xs,v=.ref a/\H a=some (.dK (ks.zip xs))/\S a/\ks.length=xs.length/\bC K S H ds xs
 | .dF q ks ds,v=>∃ a o kvs,v=.ref a/\H a=some (.dX o kvs)/\S a/\(kvs.map (·.1)=ks/\q a o)/\bC K S H ds (kvs.map (·.2.2))
 | .exc _ a,v=>v=.ref a
def bC (K:PySem.W.Frag) (S:Addr->Prop) (H:Hp):List D->List V->Prop
 | [],xs=>xs=[]
 | d::ds,xs=>∃ v r,xs=v::r/\Dn K S H d v/\bC K S H ds r
end
structure Fits (K:PySem.W.Frag) (S S':Addr->Prop) (H H':Hp):Prop where
 t:∀ a xs,H a=some (.tup xs)->H' a=some (.tup xs)
 s:∀ a ns,Scr K H a ns->Scr K H' a ns
 l:∀ a xs,H a=some (.lst xs)->S a->H' a=some (.lst xs)/\S' a
 d:∀ a xs,H a=some (.dK xs)->S a->H' a=some (.dK xs)/\S' a
 e:∀ a o xs,H a=some (.dX o xs)->S a->H' a=some (.dX o xs)/\S' a
section
variable {K:PySem.W.Frag} {S S':Addr->Prop} {H H':Hp}
mutual
##Dn.fits (f:Fits K S S' H H'):∀ (d:D) (v:V),Dn K S H d v->Dn K S' H' d v
 | .non,v,h=>by simpa only [Dn] using h
 | .bl b,v,h=>by simpa only [Dn] using h
 | .int i,v,h=>by simpa only [Dn] using h
 | .str x,v,h=>by simpa only [Dn] using h
 | .tup ds,v,h=>by
  simp only [Dn] at h ⊢
  &⟨a,xs,e,q,r⟩:=h
  !⟨a,xs,e,f.t a xs q,bC.fits f ds xs r⟩
 | .lst ds,v,h=>by
  simp only [Dn] at h ⊢
  &⟨a,xs,e,q,s,r⟩:=h
  &⟨q',s'⟩:=f.l a xs q s
  !⟨a,xs,e,q',s',bC.fits f ds xs r⟩
 | .jW ns,v,h=>by
  simp only [Dn] at h ⊢
  &⟨a,e,q⟩:=h
  !⟨a,e,f.s a ns q⟩
 | .lB ks ds,v,h=>by
  simp only [Dn] at h ⊢
  &⟨a,xs,e,q,s,l,r⟩:=h
  &⟨q',s'⟩:=f.d a _ q s
  !⟨a,xs,e,q',s',l,bC.fits f ds xs r⟩
 | .dF _ ks ds,v,h=>by
  simp only [Dn] at h ⊢
  &⟨a,o,kvs,e,q,s,l,r⟩:=h
  &⟨q',s'⟩:=f.e a _ _ q s
  !⟨a,o,kvs,e,q',s',l,bC.fits f ds _ r⟩
 | .exc _ _,v,h=>by simpa only [Dn] using h
##bC.fits (f:Fits K S S' H H'):∀ (ds:List D) (xs:List V),bC K S H ds xs->bC K S' H' ds xs
 | [],xs,h=>by simpa only [bC] using h
 | d::ds,xs,h=>by
  simp only [bC] at h ⊢
  &⟨v,r,e,h1,h2⟩:=h
  !⟨v,r,e,Dn.fits f d v h1,bC.fits f ds r h2⟩
end
mutual
##Dn.OP:∀ (d:D) (v:V),d.vN=true->Dn K S H d v->Dn K S' H d v
 | .non,v,_,h=>by simpa only [Dn] using h
 | .bl b,v,_,h=>by simpa only [Dn] using h
 | .int i,v,_,h=>by simpa only [Dn] using h
 | .str x,v,_,h=>by simpa only [Dn] using h
 | .tup ds,v,hi,h=>by
  simp only [Dn] at h ⊢
  &⟨a,xs,e,q,r⟩:=h
  !⟨a,xs,e,q,bC.OP ds xs (by simpa only [D.vN] using hi) r⟩
 | .lst _,v,hi,h=>by simp only [D.vN] at hi; cases hi
 | .jW ns,v,_,h=>by simpa only [Dn] using h
 | .lB _ _,v,hi,h=>by simp only [D.vN] at hi; cases hi
 | .dF _ _ _,v,hi,h=>by simp only [D.vN] at hi; cases hi
 | .exc _ _,v,_,h=>by simpa only [Dn] using h
##bC.OP:∀ (ds:List D) (xs:List V),kW ds=true->bC K S H ds xs->bC K S' H ds xs
 | [],xs,_,h=>by simpa only [bC] using h
 | d::ds,xs,hi,h=>by
  simp only [kW,Bool.and_eq_true] at hi
  simp only [bC] at h ⊢
  &⟨v,r,e,h1,h2⟩:=h
  !⟨v,r,e,Dn.OP d v hi.1 h1,bC.OP ds r hi.2 h2⟩
end
##Dn.vN {d:D} (hi:d.vN=true) {v:V} (h:Dn K S H d v):Dn K S' H d v:=Dn.OP d v hi h
##bC.vN {ds:List D} (hi:kW ds=true) {xs:List V} (h:bC K S H ds xs):bC K S' H ds xs:=bC.OP ds xs hi h
##gH.some {a:Addr} {xs:List V} (h:gH K (fun _=>none) a xs):gH K H a xs:=by
 rcases h with (h | ⟨o,h⟩) | h
 ·cases h
 ·cases h
 ·!.inr h
##Scr.sq {a:Addr} {ns:List Int} (h:Scr K H a ns):gH K H a (ns.map V.int):=by
 rcases h with ⟨o,h⟩ | h
 ·!.inl (.inr ⟨o,h⟩)
 ·!gH.some h
def Wr (H:Hp) (p:Addr):Prop:=(∃ xs,H p=some (.lst xs))\/(∃ xs,H p=some (.dK xs)) \/ ∃ o xs,H p=some (.dX o xs)
##Wr.tup {p a:Addr} {o:HO} {xs:List V} (w:Wr H p) (h:H a=some (.tup xs)):upd H p o a=some (.tup xs):=by
 rw [bQ]
 ·!h
 ·intro e
  subst e
  rcases w with ⟨ys,w⟩ | ⟨ys,w⟩ | ⟨_,ys,w⟩<;>rw [h] at w<;>cases w
##Wr.jW {p a:Addr} {o:HO} {ns:List Int} (w:Wr H p) (h:Scr K H a ns):Scr K (upd H p o) a ns:=by
 rcases h with ⟨ob,h⟩ | h
 ·@.inl ⟨ob,?_⟩
  rw [bQ]
  ·!h
  ·intro e
   subst e
   rcases w with ⟨ys,w⟩ | ⟨ys,w⟩ | ⟨_,ys,w⟩<;>rw [h] at w<;>cases w
 ·!.inr h
##Fits.same (e:Same H H'):Fits K S S H H' :=
 ⟨fun a xs h=>e _ _ h,fun a ns h=>h.elim (fun ⟨o,h⟩=>.inl ⟨o,e _ _ h⟩) .inr,fun a xs h s=>⟨e _ _ h,s⟩,fun a xs h s=>⟨e _ _ h,s⟩,fun a _ xs h s=>⟨e _ _ h,s⟩⟩
##Fits.mono (m:∀ a,S a->S' a):Fits K S S' H H :=
 ⟨fun _ _ h=>h,fun _ _ h=>h,fun a _ h s=>⟨h,m a s⟩,fun a _ h s=>⟨h,m a s⟩,fun a _ _ h s=>⟨h,m a s⟩⟩
##Fits.fresh {p:Addr} (hp:H p=none):Fits K S (fun a=>S a/\a≠p) H H :=
 ⟨fun _ _ h=>h,fun _ _ h=>h,fun a _ h s=>⟨h,s,bU h hp⟩,fun a _ h s=>⟨h,s,bU h hp⟩,fun a _ _ h s=>⟨h,s,bU h hp⟩⟩
##Fits.upd {p:Addr} {o:HO} (w:Wr H p) (hs:¬ S p):Fits K S S H (upd H p o):=by
 have ne:∀ a,S a->a≠p:=fun a s e=>hs (e▸s)
 !⟨fun a xs h=>w.tup h,fun a ns h=>w.jW h,fun a xs h s=>⟨by rw [bQ (ne a s)]; !h,s⟩,fun a xs h s=>⟨by rw [bQ (ne a s)]; !h,s⟩,fun a _ xs h s=>⟨by rw [bQ (ne a s)]; !h,s⟩⟩
##Fits.trans {S'':Addr->Prop} {H'':Hp} (a:Fits K S S' H H') (b:Fits K S' S'' H' H''):Fits K S S'' H H'' :=
 ⟨fun x xs h=>b.t x xs (a.t x xs h),fun x ns h=>b.s x ns (a.s x ns h),fun x xs h s=>let ⟨h1,s1⟩:=a.l x xs h s; b.l x xs h1 s1,fun x xs h s=>let ⟨h1,s1⟩:=a.d x xs h s; b.d x xs h1 s1,fun x o xs h s=>let ⟨h1,s1⟩:=a.e x o xs h s; b.e x o xs h1 s1⟩
##aX {p:Addr} {o:HO} (hp:H p=none):Same H (upd H p o):=fun b u h=>by rw [bQ (bU h hp)]; !h
##bC.len:∀ {ds:List D} {xs:List V},bC K S H ds xs->ds.length=xs.length
 | [],xs,h=>by simp only [bC] at h; subst h; rfl
 | d::ds,xs,h=>by
  simp only [bC] at h
  &⟨v,r,e,_,h2⟩:=h
  subst e
  simp [bC.len h2]
##bC.get:∀ {ds:List D} {xs:List V} {i:Nat} {d:D},bC K S H ds xs->ds[i]? = some d -> ∃ v,xs[i]? = some v/\Dn K S H d v
 | [],xs,i,d,h,e=>by simp at e
 | d::ds,xs,i,d',h,e=>by
  simp only [bC] at h
  &⟨v,r,e1,h1,h2⟩:=h
  subst e1
  cases i with
  | zero=>simp at e; subst e; !⟨v,by simp,h1⟩
  | succ i =>
   &⟨u,e2,q⟩:=bC.get (i:=i) (d:=d') h2 (¥e)
   !⟨u,¥e2,q⟩
##bC.nil:bC K S H [] []:=by simp only [bC]
##bC.cons {d:D} {ds:List D} {v:V} {xs:List V} (h:Dn K S H d v) (t:bC K S H ds xs):bC K S H (d::ds) (v::xs):=by
 simp only [bC]; !⟨v,xs,rfl,h,t⟩
##bC.bV {d:D} {ds:List D} {xs:List V} (h:bC K S H (d::ds) xs):∃ v r,xs=v::r/\Dn K S H d v/\bC K S H ds r:=by
 simpa only [bC] using h
##bC.append:∀ {ds es:List D} {xs ys:List V},bC K S H ds xs->bC K S H es ys->bC K S H (ds++es) (xs++ys)
 | [],es,xs,ys,h,g=>by simp only [bC] at h; subst h; !g
 | d::ds,es,xs,ys,h,g=>by
  &⟨v,r,e,h1,h2⟩:=h.bV
  subst e
  !bC.cons h1 (bC.append h2 g)
##bC.one {d:D} {v:V} (h:Dn K S H d v):bC K S H [d] [v]:=bC.cons h bC.nil
##bC.take:∀ {ds:List D} {xs:List V} (n:Nat),bC K S H ds xs->bC K S H (ds.take n) (xs.take n)
 | _,_,0,_=>by simp [bC.nil]
 | [],xs,n+1,h=>by simp only [bC] at h; subst h; simp [bC.nil]
 | d::ds,xs,n+1,h=>by
  &⟨v,r,e,h1,h2⟩:=h.bV
  subst e
  simpa using bC.cons h1 (bC.take n h2)
##bC.drop:∀ {ds:List D} {xs:List V} (n:Nat),bC K S H ds xs->bC K S H (ds.drop n) (xs.drop n)
 | _,_,0,h=>¥h
 | [],xs,n+1,h=>by simp only [bC] at h; subst h; simp [bC.nil]
 | d::ds,xs,n+1,h=>by
  &⟨v,r,e,h1,h2⟩:=h.bV
  subst e
  simpa using bC.drop n h2
##bC.erase:∀ {ds:List D} {xs:List V} (n:Nat),bC K S H ds xs->bC K S H (ds.eraseIdx n) (xs.eraseIdx n)
 | [],xs,n,g=>by simp only [bC] at g; subst g; simp [bC.nil]
 | d::ds,xs,n,g=>by
  &⟨v,r,e,h1,h2⟩:=g.bV
  subst e
  cases n with
  | zero=>!h2
  | succ n=>!bC.cons h1 (bC.erase n h2)
##bC.ints:∀ {ns:List Int} {xs:List V},bC K S H (ns.map D.int) xs↔xs=ns.map V.int
 | [],xs=>by simp [bC]
 | n::ns,xs=>by
  rw [List.map_cons,List.map_cons]
  constructor
  ·intro h
   &⟨v,r,e,h1,h2⟩:=h.bV
   simp only [Dn] at h1
   rw [e,h1,bC.ints.mp h2]
  ·intro e
   rw [e]
   !bC.cons (by simp only [Dn]) (bC.ints.mpr rfl)
##j4:∀ ns:List Int,kW (ns.map D.int)=true
 | []=>rfl
 | n::ns=>by rw [List.map_cons,kW,j4 ns]; rfl
end
def Sl (K:PySem.W.Frag) (S:Addr->Prop) (H:Hp) (ρ:bR) (σ:St):Prop:=∀ (i:Nat) (d:D),ρ[i]? = some (some d) -> ∃ v,σ[i]? = some (some v)/\Dn K S H d v
##Sl.fits {K:PySem.W.Frag} {S S':Addr->Prop} {H H':Hp} {ρ:bR} {σ:St} (f:Fits K S S' H H') (h:Sl K S H ρ σ):Sl K S' H' ρ σ:=fun i d e =>
 let ⟨v,e1,q⟩:=h i d e; ⟨v,e1,Dn.fits f d v q⟩
def zV (K:PySem.W.Frag) (S:Addr->Prop) (H:Hp) (d:D) (p:Addr):Prop :=
 match d with
 | .lst ds=>∃ xs,H p=some (.lst xs)/\bC K S H ds xs
 | .lB ks ds=>∃ xs,H p=some (.dK (ks.zip xs))/\ks.length=xs.length/\bC K S H ds xs
 | .dF q ks ds=>∃ o kvs,H p=some (.dX o kvs)/\(kvs.map (·.1)=ks/\q p o)/\bC K S H ds (kvs.map (·.2.2))
 | _=>False
def SO (S:Addr->Prop) (w:Nat->Addr) (ρ:aP):Addr->Prop:=fun a=>S a /\ ∀ (i:Nat) (d:D),ρ[i]? = some (Sv.ow d)->a≠w i
structure ST (K:PySem.W.Frag) (H₀:Hp) (S:Addr->Prop) (w:Nat->Addr) (σ:St) (H:Hp) (ρ:aP) (G:List (D×V)):Prop where
 fc:∀ a,H₀ a=none->S a
 sm:Same H₀ H
 own:∀ (i:Nat) (d:D),ρ[i]? = some (Sv.ow d)->σ[i]? = some (some (.ref (w i)))/\H₀ (w i)=none/\zV K (SO S w ρ) H d (w i)
 inj:∀ (i j:Nat) (d e:D),ρ[i]? = some (Sv.ow d)->ρ[j]? = some (Sv.ow e)->w i=w j->i=j
 ro:∀ (i:Nat) (d:D),ρ[i]? = some (Sv.ro d) -> ∃ v,σ[i]? = some (some v)/\Dn K (SO S w ρ) H d v
 gh:∀ g∈G,Dn K (SO S w ρ) H g.1 g.2
section
variable {K:PySem.W.Frag} {H₀ H H':Hp} {S S':Addr->Prop} {w:Nat->Addr} {σ:St} {ρ:aP} {G:List (D×V)}
##zV.wr {d:D} {p:Addr} (h:zV K S H d p):Wr H p:=by
 cases d with
 | lst ds=>&⟨xs,e,_⟩:=h; !.inl ⟨_,e⟩
 | lB ks ds=>&⟨xs,e,_⟩:=h; !.inr (.inl ⟨_,e⟩)
 | dF q0 ks ds=>&⟨o,kvs,e,_⟩:=h; !.inr (.inr ⟨_,_,e⟩)
 | _=>!False.elim h
##zV.dn {d:D} {p:Addr} (h:zV K S H d p) (hs:S' p) (m:∀ a,S a->S' a):Dn K S' H d (.ref p):=by
 cases d with
 | lst ds=>&⟨xs,e,q⟩:=h; simp only [Dn]; !⟨p,xs,rfl,e,hs,bC.fits (.mono m) ds xs q⟩
 | lB ks ds=>&⟨xs,e,l,q⟩:=h; simp only [Dn]; !⟨p,xs,rfl,e,hs,l,bC.fits (.mono m) ds xs q⟩
 | dF q0 ks ds=>&⟨o,kvs,e,l,q⟩:=h; simp only [Dn]; !⟨p,o,kvs,rfl,e,hs,l,bC.fits (.mono m) ds _ q⟩
 | _=>!False.elim h
##zV.fits {d:D} {p:Addr} (f:Fits K S S' H H') (hp:∀ o,H p=some o->H' p=some o) (h:zV K S H d p):zV K S' H' d p:=by
 cases d with
 | lst ds=>&⟨xs,e,q⟩:=h; !⟨xs,hp _ e,bC.fits f ds xs q⟩
 | lB ks ds=>&⟨xs,e,l,q⟩:=h; !⟨xs,hp _ e,l,bC.fits f ds xs q⟩
 | dF q0 ks ds=>&⟨o,kvs,e,l,q⟩:=h; !⟨o,kvs,hp _ e,l,bC.fits f ds _ q⟩
 | _=>!False.elim h
##ST.OQ (h:ST K H₀ S w σ H ρ G):∀ a,H a=none->S a:=fun a e=>h.fc a (h.sm.free e)
##ST.UM (h:ST K H₀ S w σ H ρ G):∀ a,H a=none->SO S w ρ a:=fun a e=>⟨h.OQ a e,fun i d q z=>by
 have wr:=(h.own i d q).2.2.wr
 subst z
 rcases wr with ⟨xs,k⟩ | ⟨xs,k⟩ | ⟨_,xs,k⟩<;>rw [e] at k<;>cases k⟩
##zW {i:Nat} {d:D} (h:(bT ρ)[i]? = some (some d)):ρ[i]? = some (Sv.ro d)\/ρ[i]? = some (Sv.ow d):=by
 ~bT at h
 rw [List.getElem?_map] at h
 cases e:ρ[i]? with
 | none=>rw [e] at h; cases h
 | some s =>
  rw [e] at h
  cases s with
  | no=>cases h
  | ro d'=>cases h; !.inl rfl
  | ow d'=>cases h; !.inr rfl
##DW {i:Nat} {d:D} (h:(kD ρ)[i]? = some (some d)):ρ[i]? = some (Sv.ro d):=by
 ~kD at h
 rw [List.getElem?_map] at h
 cases e:ρ[i]? with
 | none=>rw [e] at h; cases h
 | some s =>
  rw [e] at h
  cases s with
  | no=>cases h
  | ro d'=>cases h; rfl
  | ow d'=>cases h
##ST.all (h:ST K H₀ S w σ H ρ G):Sl K S H (bT ρ) σ:=fun i d e=>by
 rcases zW e with e | e
 ·&⟨v,e1,q⟩:=h.ro i d e
  !⟨v,e1,Dn.fits (.mono fun _ z=>z.1) d v q⟩
 ·&⟨e1,e2,q⟩:=h.own i d e
  !⟨_,e1,q.dn (h.fc _ e2) fun _ z=>z.1⟩
##ST.rd (h:ST K H₀ S w σ H ρ G):Sl K (SO S w ρ) H (kD ρ) σ:=fun i d e=>h.ro i d (DW e)
##ST.same (h:ST K H₀ S w σ H ρ G) (e:Same H H'):ST K H₀ S w σ H' ρ G :=
 ⟨h.fc,h.sm.trans e,fun i d q=>let ⟨a,b,c⟩:=h.own i d q; ⟨a,b,c.fits (.same e) fun o z=>e _ o z⟩,h.inj,fun i d q=>let ⟨v,a,b⟩:=h.ro i d q; ⟨v,a,Dn.fits (.same e) d v b⟩,fun g hg=>Dn.fits (.same e) _ _ (h.gh g hg)⟩
##SO.mono {ρ':aP} (hw:∀ (i:Nat) (d:D),ρ'[i]? = some (Sv.ow d) -> ∃ e,ρ[i]? = some (Sv.ow e)):∀ a,SO S w ρ a->SO S w ρ' a:=fun a hq6=>by &⟨s,n⟩:=hq6; !⟨s,fun i d e=>let ⟨d',e'⟩:=hw i d e; n i d' e'⟩
##get_set {α:Type} {l:List α} {i j:Nat} {x y:α} (h:(l.set i x)[j]? = some y):(j=i/\y=x/\i<l.length)\/(j≠i/\l[j]? = some y):=by
 by_cases e:j=i
 ·subst e
  by_cases hl:j<l.length
  ·rw [List.getElem?_set_self hl] at h
   !.inl ⟨rfl,(Option.some.inj h).symm,hl⟩
  ·rw [List.getElem?_eq_none (by simp; omega)] at h
   cases h
 ·rw [List.getElem?_set_ne (Ne.symm e)] at h
  !.inr ⟨e,h⟩
##ST.nF {i:Nat} {d:D} {v:V} (h:ST K H₀ S w σ H ρ G) (hi:i<σ.length) (q:Dn K (SO S w ρ) H d v):ST K H₀ S w (σ.set i (some v)) H (ρ.set i (.ro d)) G:=by
 have hw:∀ (j:Nat) (e:D),(ρ.set i (.ro d))[j]? = some (Sv.ow e)->j≠i/\ρ[j]? = some (Sv.ow e):=fun j e he=>by
  rcases get_set he with ⟨_,z,_⟩ | z
  ·cases z
  ·!z
 have m:∀ a,SO S w ρ a->SO S w (ρ.set i (.ro d)) a:=SO.mono fun j e he=>⟨e,(hw j e he).2⟩
 @⟨h.fc,h.sm,fun j e he=>?_,fun j k d' e' h1 h2=>h.inj j k d' e' (hw j d' h1).2 (hw k e' h2).2,fun j e he=>?_,fun g hg=>Dn.fits (.mono m) _ _ (h.gh g hg)⟩
 ·&⟨hj,he'⟩:=hw j e he
  &⟨a,b,c⟩:=h.own j e he'
  !⟨by rw [List.getElem?_set_ne (Ne.symm hj)]; !a,b,c.fits (.mono m) fun _ z=>z⟩
 ·rcases get_set he with ⟨hj,z,_⟩ | ⟨hj,z⟩
  ·cases z
   subst hj
   !⟨v,List.getElem?_set_self hi,Dn.fits (.mono m) d v q⟩
  ·&⟨u,a,b⟩:=h.ro j e z
   !⟨u,by rw [List.getElem?_set_ne (Ne.symm hj)]; !a,Dn.fits (.mono m) e u b⟩
def freeze (ρ:aP) (i:Nat):aP:=match ρ[i]? with
 | some (.ow d)=>ρ.set i (.ro d)
 | _=>ρ
##ST.frozen {i:Nat} (h:ST K H₀ S w σ H ρ G):ST K H₀ S w σ H (freeze ρ i) G:=by
 ~freeze
 cases e:ρ[i]? with
 | none=>!h
 | some s =>
  cases s with
  | no=>!h
  | ro d=>!h
  | ow d =>
   dsimp only
   &⟨a,b,c⟩:=h.own i d e
   have hi:i<σ.length:=(List.getElem?_eq_some_iff.mp a).1
   have hw:∀ (j:Nat) (e:D),(ρ.set i (.ro d))[j]? = some (Sv.ow e)->j≠i/\ρ[j]? = some (Sv.ow e):=fun j e he=>by
    rcases get_set he with ⟨_,z,_⟩ | z
    ·cases z
    ·!z
   have m:∀ a,SO S w ρ a->SO S w (ρ.set i (.ro d)) a:=SO.mono fun j e he=>⟨e,(hw j e he).2⟩
   @⟨h.fc,h.sm,fun j f hf=>?_,fun j k d' e' h1 h2=>h.inj j k d' e' (hw j d' h1).2 (hw k e' h2).2,fun j f hf=>?_,fun g hg=>Dn.fits (.mono m) _ _ (h.gh g hg)⟩
   ·&⟨a,b,c⟩:=h.own j f (hw j f hf).2
    !⟨a,b,c.fits (.mono m) fun _ z=>z⟩
   ·rcases get_set hf with ⟨hj,z,_⟩ | ⟨hj,z⟩
    ·cases z
     subst hj
     @⟨_,a,c.dn ⟨h.fc _ b,fun k f' hk z=>?_⟩ m⟩
     &⟨hk1,hk2⟩:=hw k f' hk
     !hk1 (h.inj _ _ _ _ e hk2 z).symm
    ·&⟨u,a,b⟩:=h.ro j f z
     !⟨u,a,Dn.fits (.mono m) f u b⟩
##ST.xO {i:Nat} {d:D} {p:Addr} (h:ST K H₀ S w σ H ρ G) (hi:i<σ.length) (e:Same H H') (hp:H p=none) (q:zV K (fun a=>SO S w ρ a/\a≠p) H' d p) :
  ST K H₀ S (fun j=>if j=i then p else w j) (σ.set i (some (.ref p))) H' (ρ.set i (.ow d)) G:=by
 have h0:H₀ p=none:=h.sm.free hp
 have hw:∀ (j:Nat) (e:D),j≠i->(ρ.set i (.ow d))[j]? = some (Sv.ow e)->ρ[j]? = some (Sv.ow e):=fun j e hj he=>by
  rcases get_set he with ⟨z,_,_⟩ | ⟨_,z⟩
  ·!absurd z hj
  ·!z
 have m:∀ a,(SO S w ρ a/\a≠p)->SO S (fun j=>if j=i then p else w j) (ρ.set i (.ow d)) a:=fun a ⟨⟨s,n⟩,ne⟩=>⟨s,fun j f hf=>by
  show a≠(if j=i then p else w j)
  by_cases hj:j=i
  ·rw [if_pos hj]; !ne
  ·rw [if_neg hj]; !n j f (hw j f hj hf)⟩
 have F:Fits K (SO S w ρ) (SO S (fun j=>if j=i then p else w j) (ρ.set i (.ow d))) H H':=((Fits.fresh hp).trans (.mono m)).trans (.same e)
 have wp:∀ (j:Nat) (f:D),ρ[j]? = some (Sv.ow f)->w j≠p:=fun j f hf z=>by
  have wr:=(h.own j f hf).2.2.wr
  rw [z] at wr
  rcases wr with ⟨xs,k⟩ | ⟨xs,k⟩ | ⟨_,xs,k⟩<;>rw [hp] at k<;>cases k
 @⟨h.fc,h.sm.trans e,fun j f hf=>?_,fun j k d' e' h1 h2 z=>?_,fun j f hf=>?_,fun g hg=>Dn.fits F _ _ (h.gh g hg)⟩
 ·by_cases hj:j=i
  ·subst hj
   rcases get_set hf with ⟨_,z,_⟩ | ⟨z,_⟩
   ·cases z
    rw [if_pos rfl]
    !⟨List.getElem?_set_self hi,h0,q.fits (.mono m) fun _ z=>z⟩
   ·!absurd rfl z
  ·rw [if_neg hj]
   &⟨a,b,c⟩:=h.own j f (hw j f hj hf)
   !⟨by rw [List.getElem?_set_ne (Ne.symm hj)]; !a,b,c.fits F fun o z=>e _ o z⟩
 ·have z:(if j=i then p else w j)=(if k=i then p else w k):=z
  by_cases hj:j=i
  ·by_cases hk:k=i
   ·rw [hj,hk]
   ·rw [if_pos hj,if_neg hk] at z
    !absurd z.symm (wp k e' (hw k e' hk h2))
  ·by_cases hk:k=i
   ·rw [if_neg hj,if_pos hk] at z
    !absurd z (wp j d' (hw j d' hj h1))
   ·rw [if_neg hj,if_neg hk] at z
    !h.inj j k d' e' (hw j d' hj h1) (hw k e' hk h2) z
 ·rcases get_set hf with ⟨_,z,_⟩ | ⟨hj,z⟩
  ·cases z
  ·&⟨u,a,b⟩:=h.ro j f z
   !⟨u,by rw [List.getElem?_set_ne (Ne.symm hj)]; !a,Dn.fits F f u b⟩
##ST.write {i:Nat} {d d':D} {o:HO} (h:ST K H₀ S w σ H ρ G) (e:ρ[i]? = some (Sv.ow d)) (q:zV K (SO S w ρ) (upd H (w i) o) d' (w i)):ST K H₀ S w σ (upd H (w i) o) (ρ.set i (.ow d')) G:=by
 &⟨a0,b0,c0⟩:=h.own i d e
 have so:SO S w (ρ.set i (.ow d'))=SO S w ρ:=by
  funext a
  @propext ⟨fun ⟨s,n⟩=>⟨s,fun j f hf=>?_⟩,fun ⟨s,n⟩=>⟨s,fun j f hf=>?_⟩⟩
  ·by_cases hj:j=i
   ·subst hj
    !n j d' (by rw [List.getElem?_set_self (List.getElem?_eq_some_iff.mp e).1])
   ·!n j f (by rw [List.getElem?_set_ne (Ne.symm hj)]; !hf)
  ·by_cases hj:j=i
   ·subst hj; !n j d e
   ·!n j f (by rw [List.getElem?_set_ne (Ne.symm hj)] at hf; !hf)
 have nS:¬ SO S w ρ (w i):=fun ⟨_,n⟩=>n i d e rfl
 have F:Fits K (SO S w ρ) (SO S w ρ) H (upd H (w i) o):=.upd c0.wr nS
 @⟨h.fc,fun b u hb=>?_,fun j f hf=>?_,fun j k d1 e1 h1 h2 z=>?_,fun j f hf=>?_,fun g hg=>by rw [so]; !Dn.fits F _ _ (h.gh g hg)⟩
 ·rw [bQ (bU hb b0)]
  !h.sm b u hb
 ·rw [so]
  rcases get_set hf with ⟨hj,z,_⟩ | ⟨hj,z⟩
  ·cases z
   subst hj
   !⟨a0,b0,q⟩
  ·&⟨a,b,c⟩:=h.own j f z
   !⟨a,b,c.fits F fun ob hob=>by rw [bQ fun y=>hj (h.inj _ _ _ _ z e y)]; !hob⟩
 ·have g1:∃ d2,ρ[j]? = some (Sv.ow d2):=by
   rcases get_set h1 with ⟨hj,_,_⟩ | ⟨_,z⟩
   ·subst hj; !⟨d,e⟩
   ·!⟨_,z⟩
  have g2:∃ d2,ρ[k]? = some (Sv.ow d2):=by
   rcases get_set h2 with ⟨hj,_,_⟩ | ⟨_,z⟩
   ·subst hj; !⟨d,e⟩
   ·!⟨_,z⟩
  &⟨_,g1⟩:=g1
  &⟨_,g2⟩:=g2
  !h.inj j k _ _ g1 g2 z
 ·rw [so]
  rcases get_set hf with ⟨_,z,_⟩ | ⟨hj,z⟩
  ·cases z
  ·&⟨u,a,b⟩:=h.ro j f z
   !⟨u,a,Dn.fits F f u b⟩
##ST.ghost (h:ST K H₀ S w σ H ρ G) {G':List (D×V)} (hg:∀ g∈G',Dn K (SO S w ρ) H g.1 g.2):ST K H₀ S w σ H ρ G':=⟨h.fc,h.sm,h.own,h.inj,h.ro,hg⟩
end
end L3
end
section
namespace L3
open PySem PySem.Spec PyProof.Rows L2
abbrev WE:=bR->(D->Prop)->Prop
abbrev WT:=bR->(Bool->Prop)->Prop
abbrev WA:=bR->(List D->Prop)->Prop
def lift (K:PySem.W.Frag) (t:WE):TE:=fun σ H Q=>∃ (S:Addr->Prop) (ρ:bR) (Q3:D->Prop),(∀ a,H a=none->S a)/\Sl K S H ρ σ/\t ρ Q3 /\ ∀ v H' d,Same H H'->Dn K S H' d v->Q3 d->Q v H'
def liftT (K:PySem.W.Frag) (t:WT):TT:=fun σ H Q=>∃ (S:Addr->Prop) (ρ:bR) (Q3:Bool->Prop),(∀ a,H a=none->S a)/\Sl K S H ρ σ/\t ρ Q3 /\ ∀ b H',Same H H'->Q3 b->Q b H'
def UN (K:PySem.W.Frag) (t:WA):TA:=fun σ H Q=>∃ (S:Addr->Prop) (ρ:bR) (Q3:List D->Prop),(∀ a,H a=none->S a)/\Sl K S H ρ σ/\t ρ Q3 /\ ∀ vs H' ds,Same H H'->bC K S H' ds vs->Q3 ds->Q vs H'
def UO (K:PySem.W.Frag) (t:WE):TE:=fun σ H Q=>∃ (S:Addr->Prop) (ρ:bR) (Q3:D->Prop),(∀ a,H a=none->S a)/\Sl K S H ρ σ/\t ρ Q3 /\
 ∀ p xs H' ds,H p=none->H' p=some (.lst xs)->Same H H'->bC K (fun a=>S a/\a≠p) H' ds xs->Q3 (.lst ds)->Q (.ref p) H'
def cU (X:Cx) (e:Expr) (t:WE):Prop:=PE X e (lift X.K t)
def HN (X:Cx) (e:Expr) (t:WE):Prop:=PE X e (UO X.K t)
def vY (X:Cx) (e:Expr) (t:WT):Prop:=PT X e (liftT X.K t)
def zJ (X:Cx) (es:List Expr) (t:WA):Prop:=PA X es (UN X.K t)
section
variable {X:Cx}
##imp {e:Expr} {t t':TE} (h:PE X e t) (f:∀ σ H Q,t' σ H Q->t σ H Q):PE X e t':=fun pins s σ H Q I q=>h pins s σ H Q I (f σ H Q q)
##JH {e:Expr} {t t':TT} (h:PT X e t) (f:∀ σ H Q,t' σ H Q->t σ H Q):PT X e t':=fun pins s σ H Q I q=>h pins s σ H Q I (f σ H Q q)
##UP {e:List Expr} {t t':TA} (h:PA X e t) (f:∀ σ H Q,t' σ H Q->t σ H Q):PA X e t':=fun pos pins s σ H Q I q=>h pos pins s σ H Q I (f σ H Q q)
##bP {H H':Hp} {S:Addr->Prop} (fc:∀ a,H a=none->S a) (s:Same H H'):∀ a,H' a=none->S a:=fun a e=>fc a (s.free e)
##HN.pe {e:Expr} {t:WE} (h:HN X e t):cU X e t:=imp h fun σ H Q hq7=>by
 &⟨S,ρ,Q3,fc,sl,ht,k⟩:=hq7
 !⟨S,ρ,Q3,fc,sl,ht,fun p xs H' ds hp hp' s dn q=>k _ H' _ s (by simp only [Dn]; !⟨p,xs,rfl,hp',fc p hp,bC.fits (.mono fun _ z=>z.1) ds xs dn⟩) q⟩
def ZF (i:Nat):WE:=fun ρ Q=>match ρ[i]? with
 | some (some d)=>Q d
 | _=>False
def wC (d:D):WE:=fun _ Q=>Q d
##UQ {K:PySem.W.Frag} {i:Nat} {σ:L2.St} {H:Hp} {Q:VK} (h:lift K (ZF i) σ H Q):aBh i σ H Q:=by
 &⟨S,ρ,Q3,fc,sl,ht,k⟩:=h
 ~ZF at ht
 split at ht
 ·rename_i d e
  &⟨v,e1,q⟩:=sl i d e
  !⟨v,e1,k v H d (Same.refl H) q ht⟩
 ·!ht.elim
##x3 (i:Nat) {x:Str} {pos:Pos} (hN:X.N[i]? = some x:=by rfl) (hv:EL X.env.scope x:=by first | !Or.inl rfl | !Or.inr (Or.inl rfl) | !Or.inr (Or.inr rfl)) (hd:(x == ("__debug__" : Str))=false:=by decide)
  (hcd:(x == ("__classdict__" : Str))=false:=by decide):cU X (.Name x pos) (ZF i):=imp (t5 hN hv hd hcd) fun _ _ _=>UQ
##DX {K:PySem.W.Frag} {d:D} {v:V} {σ:L2.St} {H:Hp} {Q:VK} (hd:∀ S H,Dn K S H d v) (h:lift K (wC d) σ H Q):tC v σ H Q:=by
 &⟨S,ρ,Q3,fc,sl,ht,k⟩:=h
 !k v H d (Same.refl H) (hd S H) ht
##i3 {i:Int} {j pos}:cU X (.Constant (.int i) j pos) (wC (.int i)):=imp aBi fun _ _ _=>DX (fun _ _=>by simp only [Dn])
##b3 {b:Bool} {j pos}:cU X (.Constant (.bool b) j pos) (wC (.bl b)):=imp aEM fun _ _ _=>DX (fun _ _=>by simp only [Dn])
##s3 {x:Str} {j pos}:cU X (.Constant (.str x) j pos) (wC (.str x)):=imp aBj fun _ _ _=>DX (fun _ _=>by simp only [Dn])
##g3 {x:Str} {i:Int} {t:Tok} {pos:Pos} (hg:Gl X x) (hm:X.mg x=some (.int i t)) (hd:(x == ("__debug__" : Str))=false:=by decide):cU X (.Name x pos) (wC (.int i)) :=
 imp (YO hg hm (v:=.int i) ⟨t,rfl⟩ hd) fun _ _ _=>DX (fun _ _=>by simp only [Dn])
abbrev F2:=D->D->(D->Prop)->Prop
def iM (f:F2) (ta tb:WE):WE:=fun ρ Q=>ta ρ fun x=>tb ρ fun y=>f x y Q
def O3 (K:PySem.W.Frag) (r:R2) (f:F2):Prop:=∀ (S:Addr->Prop) (H:Hp) (x y:V) (dx dy:D) (Q3:D->Prop) (Q:VK),(∀ a,H a=none->S a)->Dn K S H dx x->Dn K S H dy y->f dx dy Q3 ->
 (∀ v H' d,Same H H'->Dn K S H' d v->Q3 d->Q v H')->r x y H Q
##sM {K:PySem.W.Frag} {r:R2} {f:F2} {ta tb:WE} {σ:L2.St} {H:Hp} {Q:VK} (h3:O3 K r f) (h:lift K (iM f ta tb) σ H Q):tOp r (lift K ta) (lift K tb) σ H Q:=by
 &⟨S,ρ,Q3,fc,sl,ht,k⟩:=h
 @⟨S,ρ,_,fc,sl,ht,fun v H1 d s1 d1 q1=>?_⟩
 @⟨S,ρ,_,bP fc s1,Sl.fits (.same s1) sl,q1,fun u H2 d2 s2 d2' q2=>?_⟩
 !h3 S H2 v u d d2 Q3 Q (bP fc (s1.trans s2)) (Dn.fits (.same s2) _ _ d1) d2' q2 fun v' H' d' s' dn' q'=>k v' H' d' ((s1.trans s2).trans s') dn' q'
##W7 {a b:Expr} {op:Operator} {pos:Pos} {r:R2} {f:F2} {ta tb:WE} (ho:i6 X (binaryOp op) r) (h3:O3 X.K r f) (ha:cU X a ta) (hb:cU X b tb):cU X (.BinOp a op b pos) (iM f ta tb) :=
 imp (aA4 ho ha hb) fun _ _ _=>sM h3
def OR (C:Int->Int->Prop) (g:Int->Int->D):F2
 | .int i,.int j,Q=>C i j/\Q (g i j)
 | _,_,_=>False
##oJ {K:PySem.W.Frag} {C:Int->Int->Prop} {g:Int->Int->Int}:O3 K (rI C fun i j=>.int (g i j)) (OR C fun i j=>.int (g i j)):=by
 intro S H x y dx dy Q3 Q fc hx hy hf k
 cases dx<;>cases dy<;>try !hf.elim
 simp only [Dn] at hx hy
 !⟨_,_,hx,hy,hf.1,k _ H _ (Same.refl H) (by simp only [Dn]) hf.2⟩
def uS (g:Int->Int->D):F2
 | .int i,.int j,Q=>Q (g i j)
 | _,_,_=>False
##ZG {K:PySem.W.Frag} {g:Int->Int->Int}:O3 K (OD fun i j=>.int (g i j)) (uS fun i j=>.int (g i j)):=by
 intro S H x y dx dy Q3 Q fc hx hy hf k
 cases dx<;>cases dy<;>try !hf.elim
 simp only [Dn] at hx hy
 !⟨_,_,hx,hy,k _ H _ (Same.refl H) (by simp only [Dn]) hf⟩
def aJH:F2:=uS fun i j=>.int (i - j)
def aJI:F2:=OR (fun _ j=>0<j) fun i j=>.int (i % j)
def aJJ:F2:=OR aE2 fun i j=>.int (i / j)
def aJK:F2:=OR aBw fun i j=>.int (i ^ j.toNat)
section
variable {a b:Expr} {pos:Pos} {ta tb:WE}
##aJL (ha:cU X a ta) (hb:cU X b tb):cU X (.BinOp a .Sub b pos) (iM aJH ta tb):=W7 aBy ZG ha hb
##aJM (ha:cU X a ta) (hb:cU X b tb):cU X (.BinOp a .Mod b pos) (iM aJI ta tb):=W7 aBz oJ ha hb
##aJN (ha:cU X a ta) (hb:cU X b tb):cU X (.BinOp a .FloorDiv b pos) (iM aJJ ta tb):=W7 YW oJ ha hb
##aJO (ha:cU X a ta) (hb:cU X b tb):cU X (.BinOp a .Pow b pos) (iM aJK ta tb):=W7 aCA oJ ha hb
end
def aAe (K:PySem.W.Frag):R2:=fun x y H Q=>∃ a b xs ys,x=.ref a/\y=.ref b/\gA K H a xs/\gA K H b ys/\xs.length+ys.length<=sizeLine /\
 (xs=[]->Q (.ref b) H)/\(xs≠[]->ys=[]->Q (.ref a) H)/\(xs≠[]->ys≠[] -> ∀ p,H p=none->Q (.ref p) (upd H p (.tup (xs++ys))))
##UR {prog:Program} {w:World} {A:Around} {E:Value->Shared->Prop} {s:Shared} {t b:Addr} {ws:List Value} {Q:Value->Shared->Prop} (ht:IsTup s.heap t #[]) (hb:IsTup s.heap b ws.toArray)
  (h1:Q (.ref b) s):wpAny (model prog w) A (binaryOp .Add (.ref t) (.ref b)) Q E s:=by
 &⟨⟨cls,dd,data,sl⟩,ho,hc,n,hd⟩:=id ht
 &⟨⟨cls2,dd2,data2,sl2⟩,ho2,hc2,n2,hd2⟩:=id hb
 simp only at hc hd hc2 hd2
 subst hc hd hc2 hd2
 !concat_meets ⟨_,ho,rfl⟩ ⟨_,ho2,rfl⟩ noFill_tuple_add seq_tuple_add PySem.F.slot_tuple_add PySem.F.entry_tuple_add (PySem.F.args_tuple_add_2 _ _)
   (tuple_addW0 t b #[] ws.toArray n n2 dd dd2 sl sl2 (by simp)) ⟨ho,ho2,h1⟩
##US:i6 X (binaryOp .Add) (aAe X.K):=by
 intro pins s σ H x y v u Q I rx ry h
 &⟨a,b,xs,ys,rfl,rfl,ha,hb,hz,q0,q1,q2⟩:=h
 by_cases hx:xs=[]
 ·cases rx
  cases ry
  subst hx
  &⟨its,r1,p1,_⟩:=I.tuple ha
  &⟨its2,r2,p2,_⟩:=I.tuple hb
  cases r1
  !UR p1 p2 ⟨.ref b,H,I,rfl,q0 rfl⟩
 ·!Y5 pins s σ H _ _ v u Q I rx ry ⟨a,b,xs,ys,rfl,rfl,ha,hb,hx,hz,q1 hx,q2 hx⟩
def aCT:F2
 | .int i,.int j,Q=>Q (.int (i+j))
 | .lst a,.lst b,Q=>a.length+b.length<=sizeLine/\Q (.lst (a++b))
 | .tup a,.tup b,Q=>a.length+b.length<=sizeLine/\Q (.tup (a++b))
 | .str a,.str b,Q=>a.length+b.length<=sizeLine/\Q (.str (a++b))
 | _,_,_=>False
def aEm (K:PySem.W.Frag):R2:=fun x y H Q=>(OD fun i j=>.int (i+j)) x y H Q\/(aEf x y H Q\/(aAe K x y H Q \/ ∃ i j,x=.str i/\y=.str j/\i.length+j.length<=sizeLine/\Q (.str (i++j)) H))
##aCU {K:PySem.W.Frag}:O3 K (aEm K) aCT:=by
 intro S H x y dx dy Q3 Q fc hx hy hf k
 cases dx with
 | int i =>
  cases dy with
  | int j=>simp only [Dn] at hx hy; !.inl ⟨_,_,hx,hy,k _ H _ (Same.refl H) (by simp only [Dn]) hf⟩
  | _=>!hf.elim
 | str i =>
  cases dy with
  | str j=>simp only [Dn] at hx hy; !.inr (.inr (.inr ⟨_,_,hx,hy,hf.1,k _ H _ (Same.refl H) (by simp only [Dn]) hf.2⟩))
  | _=>!hf.elim
 | lst ds =>
  cases dy with
  | lst es =>
   simp only [Dn] at hx hy
   &⟨a,xs,rfl,ha,sa,da⟩:=hx
   &⟨b,ys,rfl,hb,sb,db⟩:=hy
   @.inr (.inl ⟨a,b,xs,ys,rfl,rfl,ha,hb,by rw [<- da.len,<- db.len]; !hf.1,fun p hp=>k _ _ _ (aX hp) ?_ hf.2⟩)
   simp only [Dn]
   !⟨p,_,rfl,bD,fc p hp,bC.fits (.same (aX hp)) _ _ (da.append db)⟩
  | _=>!hf.elim
 | tup ds =>
  cases dy with
  | tup es =>
   simp only [Dn] at hx hy
   &⟨a,xs,rfl,ha,da⟩:=hx
   &⟨b,ys,rfl,hb,db⟩:=hy
   @.inr (.inr (.inl ⟨a,b,xs,ys,rfl,rfl,gA.of ha,gA.of hb,by rw [<- da.len,<- db.len]; !hf.1,fun e=>?_,fun _ e=>?_,fun _ _ p hp=>?_⟩))
   ·subst e
    have e2:ds=[]:=List.length_eq_zero_iff.mp da.len
    subst e2
    !k _ H _ (Same.refl H) (by simp only [Dn]; !⟨b,ys,rfl,hb,db⟩) hf.2
   ·subst e
    have e2:es=[]:=List.length_eq_zero_iff.mp db.len
    subst e2
    have q:=hf.2
    rw [List.append_nil] at q
    !k _ H _ (Same.refl H) (by simp only [Dn]; !⟨a,xs,rfl,ha,da⟩) q
   ·@k _ _ _ (aX hp) ?_ hf.2
    simp only [Dn]
    !⟨p,_,rfl,bD,bC.fits (.same (aX hp)) _ _ (da.append db)⟩
  | _=>!hf.elim
 | _=>cases dy<;>!hf.elim
##ZH:i6 X (binaryOp .Add) (aEm X.K):=i6.or aBx (i6.or UC (i6.or US JB))
##aJP {a b:Expr} {pos:Pos} {ta tb:WE} (ha:cU X a ta) (hb:cU X b tb):cU X (.BinOp a .Add b pos) (iM aCT ta tb):=W7 ZH aCU ha hb
def aEn:F2
 | .lst a,.lst b,Q=>a.length+b.length<=sizeLine/\Q (.lst (a++b))
 | _,_,_=>False
##aEo {a b:Expr} {pos:Pos} {ta tb:WE} (ha:cU X a ta) (hb:cU X b tb):HN X (.BinOp a .Add b pos) (iM aEn ta tb):=imp (aA4 UC ha hb) fun σ H Q h=>by
 &⟨S,ρ,Q3,fc,sl,ht,k⟩:=h
 @⟨S,ρ,_,fc,sl,ht,fun v H1 d s1 d1 q1=>?_⟩
 @⟨S,ρ,_,bP fc s1,Sl.fits (.same s1) sl,q1,fun u H2 d2 s2 d2' q2=>?_⟩
 cases d<;>cases d2<;>try !q2.elim
 simp only [Dn] at d1 d2'
 &⟨a,xs,rfl,ha,sa,da⟩:=d1
 &⟨b,ys,rfl,hb,sb,db⟩:=d2'
 have da':=bC.fits (.same s2) _ _ da
 @⟨a,b,xs,ys,rfl,rfl,s2 _ _ ha,hb,by rw [<- da.len,<- db.len]; !q2.1,fun p hp=>k p _ _ _ ((s1.trans s2).free hp) bD ((s1.trans s2).trans (aX hp)) ?_ q2.2⟩
 !bC.fits ((Fits.fresh hp).trans (.same (aX hp))) _ _ (da'.append db)
def aJQ:WA:=fun _ Q=>Q []
def aEp (ta:WE) (t:WA):WA:=fun ρ Q=>ta ρ fun d=>t ρ fun ds=>Q (d::ds)
##aJR:zJ X [] aJQ:=UP xM fun σ H Q hq8=>by &⟨S,ρ,Q3,fc,sl,ht,k⟩:=hq8; !k [] H [] (Same.refl H) bC.nil ht
##aEq {e:Expr} {es:List Expr} {te:WE} {t:WA} (ha:cU X e te) (hr:zJ X es t) (hs:starEach (e::es) X.env=(false,eval e X.env)::starEach es X.env:=by rfl):zJ X (e::es) (aEp te t) :=
 UP (nE ha hr hs) fun σ H Q hq9=>by
  &⟨S,ρ,Q3,fc,sl,ht,k⟩:=hq9
  @⟨S,ρ,_,fc,sl,ht,fun v H1 d s1 d1 q1=>?_⟩
  @⟨S,ρ,_,bP fc s1,Sl.fits (.same s1) sl,q1,fun us H2 ds s2 d2 q2=>?_⟩
  !k _ H2 _ (s1.trans s2) (bC.cons (Dn.fits (.same s2) _ _ d1) d2) q2
def aJS (t:WA):WE:=fun ρ Q=>t ρ fun ds=>ds.length<=sizeLine/\Q (.tup ds)
def aJT (t:WA):WE:=fun ρ Q=>t ρ fun ds=>ds.length<=sizeLine/\Q (.lst ds)
##aJU {es:List Expr} {t:WA} {x1} {pos:Pos} (h:zJ X es t):cU X (.Tuple es x1 pos) (aJS t):=imp (T4 h) fun σ H Q aJV=>by
 &⟨S,ρ,Q3,fc,sl,ht,k⟩:=aJV
 @⟨S,ρ,_,fc,sl,ht,fun vs H1 ds s1 d1 q1=>⟨by rw [<- d1.len]; !q1.1,fun p hp=>k _ _ _ (s1.trans (aX hp)) ?_ q1.2⟩⟩
 simp only [Dn]
 !⟨p,_,rfl,bD,bC.fits (.same (aX hp)) _ _ d1⟩
##aJW {es:List Expr} {t:WA} {pos:Pos} (h:zJ X es t):HN X (.List es pos) (aJT t):=imp (aCH h) fun σ H Q aJX=>by
 &⟨S,ρ,Q3,fc,sl,ht,k⟩:=aJX
 @⟨S,ρ,_,fc,sl,ht,fun vs H1 ds s1 d1 q1=>⟨by rw [<- d1.len]; !q1.1,fun p hp=>k p vs _ ds (s1.free hp) bD (s1.trans (aX hp)) ?_ q1.2⟩⟩
 !bC.fits ((Fits.fresh hp).trans (.same (aX hp))) _ _ d1
end
section
variable {X:Cx}
def nM (t:WE):WT:=fun ρ Q=>t ρ fun d=>match d with
 | .bl b=>Q b
 | _=>False
##BR {K:PySem.W.Frag} {t:WE} {σ:L2.St} {H:Hp} {Q:Bool->Hp->Prop} (h:liftT K (nM t) σ H Q):FS (lift K t) σ H Q:=by
 &⟨S,ρ,Q3,fc,sl,ht,k⟩:=h
 @⟨S,ρ,_,fc,sl,ht,fun v H1 d s1 d1 q1=>?_⟩
 cases d with
 | bl b=>simp only [Dn] at d1; !⟨b,d1,k b H1 s1 q1⟩
 | _=>!q1.elim
##xP {t t':TE} {σ:L2.St} {H:Hp} {Q:Bool->Hp->Prop} (f:∀ σ H Q,t' σ H Q->t σ H Q) (h:FS t' σ H Q):FS t σ H Q:=f σ H _ h
##OS {a b:Expr} {op:CmpOp} {pos:Pos} {r:R2} {f:F2} {ta tb:WE} (ho:i6 X (compareOp op) r) (h3:O3 X.K r f) (ha:cU X a ta) (hb:cU X b tb) (hm:behindInMarks op b=false):cU X (.Compare a [op] [b] pos) (iM f ta tb) :=
 imp (YX ho ha hb hm) fun _ _ _=>sM h3
##p7 {a b:Expr} {op:CmpOp} {pos:Pos} {r:R2} {f:F2} {ta tb:WE} (ho:i6 X (compareOp op) r) (h3:O3 X.K r f) (ha:cU X a ta) (hb:cU X b tb) (hm:behindInMarks op b=false):vY X (.Compare a [op] [b] pos) (nM (iM f ta tb)) :=
 JH (YY ho ha hb hm) fun _ _ _ h=>xP (fun _ _ _=>sM h3) (BR h)
##qS {K:PySem.W.Frag} {g:Int->Int->Bool}:O3 K (OD fun i j=>.bl (g i j)) (uS fun i j=>.bl (g i j)):=by
 intro S H x y dx dy Q3 Q fc hx hy hf k
 cases dx<;>cases dy<;>try !hf.elim
 simp only [Dn] at hx hy
 !⟨_,_,hx,hy,k _ H _ (Same.refl H) (by simp only [Dn]) hf⟩
def UT:D->D->Bool
 | .non,.non=>true | .non,.int _=>true | .int _,.non=>true | .non,.bl _=>true | .bl _,.non=>true | .non,.str _=>true | .str _,.non=>true
 | .int _,.int _=>true | .bl _,.bl _=>true | .str _,.str _=>true | .int _,.str _=>true | .str _,.int _=>true | .bl _,.str _=>true | .str _,.bl _=>true
 | _,_=>false
def eqS:D->D->Bool
 | .non,.non=>true
 | .int i,.int j=>decide (i=j)
 | .bl i,.bl j=>decide (i=j)
 | .str i,.str j=>decide (i=j)
 | _,_=>false
def ZI:F2:=fun x y Q=>UT x y=true/\Q (.bl (eqS x y))
def ZJ:F2:=fun x y Q=>UT x y=true/\Q (.bl (!eqS x y))
##MN {K:PySem.W.Frag} {S:Addr->Prop} {H:Hp} {x y:V} {dx dy:D} (hx:Dn K S H dx x) (hy:Dn K S H dy y) (h:UT dx dy=true):aCE x y=true/\decide (x=y)=eqS dx dy:=by
 cases dx<;>first
  | (!absurd (show false=true from h) Bool.false_ne_true)
  | skip
 all_goals (cases dy<;>first
  | (!absurd (show false=true from h) Bool.false_ne_true)
  | (simp only [Dn] at hx hy; subst hx; subst hy; !⟨rfl,by first | !DL | !IZ | !DM | !decide_eq_false (fun h=>by cases h) | !decide_eq_true rfl⟩))
##xQ {K:PySem.W.Frag}:O3 K rEq ZI:=by
 intro S H x y dx dy Q3 Q fc hx hy hf k
 &⟨h1,h2⟩:=MN hx hy hf.1
 !⟨h1,k _ H _ (Same.refl H) (by simp only [Dn]; rw [h2]) hf.2⟩
##xR {K:PySem.W.Frag}:O3 K rNe ZJ:=by
 intro S H x y dx dy Q3 Q fc hx hy hf k
 &⟨h1,h2⟩:=MN hx hy hf.1
 !⟨h1,k _ H _ (Same.refl H) (by simp only [Dn]; rw [h2]) hf.2⟩
def allI:List D->Bool
 | []=>true
 | .int _::r=>allI r
 | _::_=>false
def zX (i:Int):List D->Bool
 | []=>false
 | .int j::r=>j == i||zX i r
 | _::r=>zX i r
##BS:∀ ns:List Int,allI (ns.map D.int)=true
 | []=>rfl
 | n::ns=>by rw [List.map_cons]; !BS ns
##BU (i:Int):∀ ns:List Int,zX i (ns.map D.int)=ns.contains i
 | []=>rfl
 | n::ns=>by
  rw [List.map_cons,zX,BU i ns,List.contains_cons]
  congr 1
  !Bool.beq_comm
##DY:∀ {ds:List D},allI ds=true -> ∃ ns:List Int,ds=ns.map D.int
 | [],_=>⟨[],rfl⟩
 | .int n::r,h=>by
  &⟨ns,e⟩:=DY (ds:=r) h
  !⟨n::ns,by rw [e]; rfl⟩
 | .non::r,h=>absurd (show false=true from h) Bool.false_ne_true
 | .bl _::r,h=>absurd (show false=true from h) Bool.false_ne_true
 | .str _::r,h=>absurd (show false=true from h) Bool.false_ne_true
 | .tup _::r,h=>absurd (show false=true from h) Bool.false_ne_true
 | .lst _::r,h=>absurd (show false=true from h) Bool.false_ne_true
 | .jW _::r,h=>absurd (show false=true from h) Bool.false_ne_true
 | .lB _ _::r,h=>absurd (show false=true from h) Bool.false_ne_true
 | .dF _ _ _::r,h=>absurd (show false=true from h) Bool.false_ne_true
def inF (neg:Bool):F2
 | .int i,.tup ds,Q=>allI ds=true/\Q (.bl (if neg then !zX i ds else zX i ds))
 | .int i,.lst ds,Q=>allI ds=true/\Q (.bl (if neg then !zX i ds else zX i ds))
 | _,_,_=>False
##xS (i:Int):∀ ns:List Int,inV (.int i) (ns.map V.int)=zX i (ns.map D.int)
 | []=>rfl
 | n::ns=>by
  have e:=xS i ns
  ~inV at e ⊢
  rw [List.map_cons,List.map_cons,List.any_cons,zX,e]
  rfl
##t7:∀ ns:List Int,(ns.map V.int).all sJ=true
 | []=>rfl
 | n::ns=>by rw [List.map_cons,List.all_cons,t7 ns]; rfl
##MO {K:PySem.W.Frag} {neg:Bool}:O3 K (rIn K neg) (inF neg):=by
 intro S H x y dx dy Q3 Q fc hx hy hf k
 cases dx with
 | int i =>
  simp only [Dn] at hx
  subst hx
  cases dy with
  | tup ds =>
   simp only [Dn] at hy
   &⟨a,xs,rfl,ha,da⟩:=hy
   &⟨h1,h2⟩:=hf
   &⟨ns,rfl⟩:=DY h1
   have e:=bC.ints.mp da
   subst e
   @⟨a,_,rfl,.inr (gA.of ha),rfl,t7 ns,k _ H _ (Same.refl H) ?_ h2⟩
   simp only [Dn]
   rw [xS]
  | lst ds =>
   simp only [Dn] at hy
   &⟨a,xs,rfl,ha,_,da⟩:=hy
   &⟨h1,h2⟩:=hf
   &⟨ns,rfl⟩:=DY h1
   have e:=bC.ints.mp da
   subst e
   @⟨a,_,rfl,.inl (gH.of ha),rfl,t7 ns,k _ H _ (Same.refl H) ?_ h2⟩
   simp only [Dn]
   rw [xS]
  | _=>!hf.elim
 | _=>cases dy<;>!hf.elim
section
variable {a b:Expr} {pos:Pos} {ta tb:WE}
def ltF:F2:=uS fun i j=>.bl (decide (i<j))
def leF:F2:=uS fun i j=>.bl (decide (i<=j))
def gtF:F2:=uS fun i j=>.bl (decide (i>j))
def geF:F2:=uS fun i j=>.bl (decide (i >= j))
##gt3 (ha:cU X a ta) (hb:cU X b tb):cU X (.Compare a [.Gt] [b] pos) (iM gtF ta tb):=OS aA6 qS ha hb (jQ _)
##aJY (ha:cU X a ta) (hb:cU X b tb):cU X (.Compare a [.Eq] [b] pos) (iM ZI ta tb):=OS TU xQ ha hb (jQ _)
##aJZ (ha:cU X a ta) (hb:cU X b tb):cU X (.Compare a [.NotEq] [b] pos) (iM ZJ ta tb):=OS TV xR ha hb (jQ _)
##in3 (ha:cU X a ta) (hb:cU X b tb) (hm:behindInMarks .In b=false:=by with_unfolding_all rfl):cU X (.Compare a [.In] [b] pos) (iM (inF false) ta tb):=OS BM MO ha hb hm
##aJ0 (ha:cU X a ta) (hb:cU X b tb) (hm:behindInMarks .NotIn b=false:=by with_unfolding_all rfl):cU X (.Compare a [.NotIn] [b] pos) (iM (inF true) ta tb):=OS sL MO ha hb hm
##aJ1 (ha:cU X a ta) (hb:cU X b tb):vY X (.Compare a [.Lt] [b] pos) (nM (iM ltF ta tb)):=p7 MD qS ha hb (jQ _)
##aJ2 (ha:cU X a ta) (hb:cU X b tb):vY X (.Compare a [.LtE] [b] pos) (nM (iM leF ta tb)):=p7 ME qS ha hb (jQ _)
##aJ3 (ha:cU X a ta) (hb:cU X b tb):vY X (.Compare a [.Gt] [b] pos) (nM (iM gtF ta tb)):=p7 aA6 qS ha hb (jQ _)
##aJ4 (ha:cU X a ta) (hb:cU X b tb):vY X (.Compare a [.GtE] [b] pos) (nM (iM geF ta tb)):=p7 aE3 qS ha hb (jQ _)
##aEr (ha:cU X a ta) (hb:cU X b tb):vY X (.Compare a [.Eq] [b] pos) (nM (iM ZI ta tb)):=p7 TU xQ ha hb (jQ _)
##aEs (ha:cU X a ta) (hb:cU X b tb):vY X (.Compare a [.NotEq] [b] pos) (nM (iM ZJ ta tb)):=p7 TV xR ha hb (jQ _)
##aJ5 (ha:cU X a ta) (hb:cU X b tb) (hm:behindInMarks .In b=false:=by with_unfolding_all rfl):vY X (.Compare a [.In] [b] pos) (nM (iM (inF false) ta tb)):=p7 BM MO ha hb hm
##aEt (ha:cU X a ta) (hb:cU X b tb) (hm:behindInMarks .NotIn b=false:=by with_unfolding_all rfl):vY X (.Compare a [.NotIn] [b] pos) (nM (iM (inF true) ta tb)):=p7 sL MO ha hb hm
end
def aEu (t:WT):WT:=fun ρ Q=>t ρ fun b=>Q (!b)
def aEv (t u:WT):WT:=fun ρ Q=>t ρ fun b=>if b=true then u ρ Q else Q false
def aJ6 (t u:WT):WT:=fun ρ Q=>t ρ fun b=>if b=true then Q true else u ρ Q
def Q0 (X:Cx) (e:Expr) (t:WT):Prop:=PW X e (liftT X.K t)
##aCW {e:Expr} {t t':TT} (h:PW X e t) (f:∀ σ H Q,t' σ H Q->t σ H Q):PW X e t':=fun wh pins s σ H Q I q=>h wh pins s σ H Q I (f σ H Q q)
section
variable {a b:Expr} {rest:List Expr} {pos:Pos} {ta tb:WT}
##Q0.pt {e:Expr} {t:WT} (h:Q0 X e t):vY X e t:=PW.pt h
##aEw (ha:vY X a ta):vY X (.UnaryOp .Not a pos) (aEu ta):=JH (aBm ha) fun σ H Q aJ7=>by &⟨S,ρ,Q3,fc,sl,ht,k⟩:=aJ7; !⟨S,ρ,_,fc,sl,ht,fun b H1 s1 q1=>k (!b) H1 s1 q1⟩
##aJ8 (ha:vY X a ta):Q0 X (.BoolOp .And [a] pos) ta:=YR ha
##or1 (ha:vY X a ta):Q0 X (.BoolOp .Or [a] pos) ta:=aBk ha
##aEx (ha:vY X a ta) (hb:Q0 X (.BoolOp .And (b::rest) pos) tb):Q0 X (.BoolOp .And (a::b::rest) pos) (aEv ta tb):=aCW (aBl ha hb) fun σ H Q aJ9=>by
 &⟨S,ρ,Q3,fc,sl,ht,k⟩:=aJ9
 @⟨S,ρ,_,fc,sl,ht,fun c H1 s1 q1=>?_⟩
 cases c with
 | true=>rw [if_pos rfl] at q1 ⊢; !⟨S,ρ,Q3,bP fc s1,Sl.fits (.same s1) sl,q1,fun b' H2 s2 q2=>k b' H2 (s1.trans s2) q2⟩
 | false=>rw [if_neg Bool.false_ne_true] at q1 ⊢; !k false H1 s1 q1
##aJa (ha:vY X a ta) (hb:Q0 X (.BoolOp .Or (b::rest) pos) tb):Q0 X (.BoolOp .Or (a::b::rest) pos) (aJ6 ta tb):=aCW (aEO ha hb) fun σ H Q aJb=>by
 &⟨S,ρ,Q3,fc,sl,ht,k⟩:=aJb
 @⟨S,ρ,_,fc,sl,ht,fun c H1 s1 q1=>?_⟩
 cases c with
 | false=>rw [if_neg Bool.false_ne_true] at q1 ⊢; !⟨S,ρ,Q3,bP fc s1,Sl.fits (.same s1) sl,q1,fun b' H2 s2 q2=>k b' H2 (s1.trans s2) q2⟩
 | true=>rw [if_pos rfl] at q1 ⊢; !k true H1 s1 q1
end
def aJc (ta tb:WE):WE:=fun ρ Q=>ta ρ fun x=>match x with
 | .bl true=>tb ρ Q
 | .bl false=>Q (.bl false)
 | _=>False
def wOr (ta tb:WE):WE:=fun ρ Q=>ta ρ fun x=>match x with
 | .bl true=>Q (.bl true)
 | .bl false=>tb ρ Q
 | _=>False
def wIf (t:WT) (ta tb:WE):WE:=fun ρ Q=>t ρ fun b=>if b=true then ta ρ Q else tb ρ Q
section
variable {a b c:Expr} {rest:List Expr} {pos:Pos} {ta tb:WE} {tc:WT}
##aJd {op} (ha:cU X a ta):cU X (.BoolOp op [a] pos) ta:=aBn ha
##aJe (ha:cU X a ta) (hb:cU X (.BoolOp .And (b::rest) pos) tb):cU X (.BoolOp .And (a::b::rest) pos) (aJc ta tb):=imp (aBo ha hb) fun σ H Q aJf=>by
 &⟨S,ρ,Q3,fc,sl,ht,k⟩:=aJf
 @⟨S,ρ,_,fc,sl,ht,fun v H1 d s1 d1 q1=>?_⟩
 cases d with
 | bl c =>
  simp only [Dn] at d1
  @⟨c,d1,?_⟩
  cases c with
  | true=>rw [if_pos rfl]; !⟨S,ρ,Q3,bP fc s1,Sl.fits (.same s1) sl,q1,fun v' H2 d' s2 d2 q2=>k v' H2 d' (s1.trans s2) d2 q2⟩
  | false=>rw [if_neg Bool.false_ne_true]; !k _ H1 (.bl false) s1 (by simp only [Dn]) q1
 | _=>!q1.elim
##or3 (ha:cU X a ta) (hb:cU X (.BoolOp .Or (b::rest) pos) tb):cU X (.BoolOp .Or (a::b::rest) pos) (wOr ta tb):=imp (aEQ ha hb) fun σ H Q aJg=>by
 &⟨S,ρ,Q3,fc,sl,ht,k⟩:=aJg
 @⟨S,ρ,_,fc,sl,ht,fun v H1 d s1 d1 q1=>?_⟩
 cases d with
 | bl c =>
  simp only [Dn] at d1
  @⟨c,d1,?_⟩
  cases c with
  | false=>rw [if_neg Bool.false_ne_true]; !⟨S,ρ,Q3,bP fc s1,Sl.fits (.same s1) sl,q1,fun v' H2 d' s2 d2 q2=>k v' H2 d' (s1.trans s2) d2 q2⟩
  | true=>rw [if_pos rfl]; !k _ H1 (.bl true) s1 (by simp only [Dn]) q1
 | _=>!q1.elim
##if3 (hc:vY X c tc) (ha:cU X a ta) (hb:cU X b tb):cU X (.IfExp c a b pos) (wIf tc ta tb):=imp (TJ hc ha hb) fun σ H Q aJh=>by
 &⟨S,ρ,Q3,fc,sl,ht,k⟩:=aJh
 @⟨S,ρ,_,fc,sl,ht,fun c H1 s1 q1=>?_⟩
 cases c with
 | true=>rw [if_pos rfl] at q1 ⊢; !⟨S,ρ,Q3,bP fc s1,Sl.fits (.same s1) sl,q1,fun v' H2 d' s2 d2 q2=>k v' H2 d' (s1.trans s2) d2 q2⟩
 | false=>rw [if_neg Bool.false_ne_true] at q1 ⊢; !⟨S,ρ,Q3,bP fc s1,Sl.fits (.same s1) sl,q1,fun v' H2 d' s2 d2 q2=>k v' H2 d' (s1.trans s2) d2 q2⟩
def aJi (ta:WE):WE:=fun ρ Q=>ta ρ fun x=>match x with
 | .int i=>Q (.int (-i))
 | _=>False
##aJj (ha:cU X a ta):cU X (.UnaryOp .USub a pos) (aJi ta):=imp (aE0 aCD ha) fun σ H Q aJk=>by
 &⟨S,ρ,Q3,fc,sl,ht,k⟩:=aJk
 @⟨S,ρ,_,fc,sl,ht,fun v H1 d s1 d1 q1=>?_⟩
 cases d with
 | int i=>simp only [Dn] at d1; !⟨i,d1,k _ H1 (.int (-i)) s1 (by simp only [Dn]) q1⟩
 | _=>!q1.elim
end
def DZ (f g:F2) (ta tb tc:WE):WE:=fun ρ Q=>ta ρ fun x=>tb ρ fun y=>f x y fun z=>match z with
 | .bl true=>tc ρ fun u=>g y u Q
 | .bl false=>Q (.bl false)
 | _=>False
##xT {K:PySem.W.Frag} {r r':R2} {f g:F2} {ta tb tc:WE} {σ:L2.St} {H:Hp} {Q:VK} (h1:O3 K r f) (h2:O3 K r' g) (h:lift K (DZ f g ta tb tc) σ H Q):I0 r r' (lift K ta) (lift K tb) (lift K tc) σ H Q:=by
 &⟨S,ρ,Q3,fc,sl,ht,k⟩:=h
 @⟨S,ρ,_,fc,sl,ht,fun v H1 d s1 d1 q1=>?_⟩
 @⟨S,ρ,_,bP fc s1,Sl.fits (.same s1) sl,q1,fun u H2 e s2 e1 q2=>?_⟩
 @h1 S H2 v u d e _ _ (bP fc (s1.trans s2)) (Dn.fits (.same s2) _ _ d1) e1 q2 fun z H3 dz s3 dz1 q3=>?_
 cases dz with
 | bl c =>
  simp only [Dn] at dz1
  @⟨c,dz1,?_⟩
  cases c with
  | false=>rw [if_neg Bool.false_ne_true]; !k _ H3 (.bl false) ((s1.trans s2).trans s3) (by simp only [Dn]) q3
  | true =>
   rw [if_pos rfl]
   @⟨S,ρ,_,bP fc ((s1.trans s2).trans s3),Sl.fits (.same ((s1.trans s2).trans s3)) sl,q3,fun w' H4 dw s4 dw1 q4=>?_⟩
   !h2 S H4 u w' e dw Q3 Q (bP fc (((s1.trans s2).trans s3).trans s4)) (Dn.fits (.same (s3.trans s4)) _ _ e1) dw1 q4 fun v' H5 d' s5 d5 q5=>k v' H5 d' ((((s1.trans s2).trans s3).trans s4).trans s5) d5 q5
 | _=>!q3.elim
##aCX {a b c:Expr} {op op':CmpOp} {pos:Pos} {r r':R2} {f g:F2} {ta tb tc:WE} (ho:i6 X (compareOp op) r) (ho':i6 X (compareOp op') r') (h1:O3 X.K r f) (h2:O3 X.K r' g) (ha:cU X a ta) (hb:cU X b tb) (hc:cU X c tc)
  (hm:lastMarks [op,op'] [b,c]=false:=by with_unfolding_all rfl):cU X (.Compare a [op,op'] [b,c] pos) (DZ f g ta tb tc):=imp (TX ho ho' ha hb hc hm) fun _ _ _=>xT h1 h2
##ZK {a b c:Expr} {op op':CmpOp} {pos:Pos} {r r':R2} {f g:F2} {ta tb tc:WE} (ho:i6 X (compareOp op) r) (ho':i6 X (compareOp op') r') (h1:O3 X.K r f) (h2:O3 X.K r' g) (ha:cU X a ta) (hb:cU X b tb) (hc:cU X c tc)
  (hm:lastMarks [op,op'] [b,c]=false:=by with_unfolding_all rfl):vY X (.Compare a [op,op'] [b,c] pos) (nM (DZ f g ta tb tc)):=JH (TY ho ho' ha hb hc hm) fun _ _ _ h=>xP (fun _ _ _=>xT h1 h2) (BR h)
def ixF:F2
 | .lst ds,.int i,Q=>(match vE ds i with | some d=>Q d | none=>False)
 | .tup ds,.int i,Q=>(match vE ds i with | some d=>Q d | none=>False)
 | .jW ns,.int i,Q=>(match vE ns i with | some n=>Q (.int n) | none=>False)
 | _,_,_=>False
##bC.at {K:PySem.W.Frag} {S:Addr->Prop} {H:Hp} {ds:List D} {xs:List V} {i:Int} {d:D} (h:bC K S H ds xs) (e:vE ds i=some d):∃ v,vE xs i=some v/\Dn K S H d v:=by
 ~vE at e ⊢
 rw [<- h.len]
 cases q:Y6 ds.length i with
 | none=>rw [q] at e; cases e
 | some j =>
  rw [q] at e
  &⟨v,e1,dn⟩:=h.get (i:=j) (d:=d) e
  !⟨v,e1,dn⟩
##ZL {α β:Type} (f:α->β) (xs:List α) (i:Int):vE (xs.map f) i=(vE xs i).map f:=by
 ~vE
 rw [List.length_map]
 cases Y6 xs.length i with
 | none=>rfl
 | some j=>simp
##aEy {K:PySem.W.Frag}:O3 K (fun x y H Q=>aEb K x y H Q\/aEc K x y H Q) ixF:=by
 intro S H x y dx dy Q3 Q fc hx hy hf k
 cases dx with
 | lst ds =>
  cases dy with
  | int i =>
   simp only [Dn] at hx hy
   &⟨a,xs,rfl,ha,sa,da⟩:=hx
   have hf:(match vE ds i with | some d=>Q3 d | none=>False):=hf
   cases e:vE ds i with
   | none=>rw [e] at hf; !hf.elim
   | some d =>
    rw [e] at hf
    &⟨v,e1,dv⟩:=da.at e
    !.inl ⟨a,xs,i,v,rfl,hy,gH.of ha,e1,k v H d (Same.refl H) dv hf⟩
  | _=>!hf.elim
 | tup ds =>
  cases dy with
  | int i =>
   simp only [Dn] at hx hy
   &⟨a,xs,rfl,ha,da⟩:=hx
   have hf:(match vE ds i with | some d=>Q3 d | none=>False):=hf
   cases e:vE ds i with
   | none=>rw [e] at hf; !hf.elim
   | some d =>
    rw [e] at hf
    &⟨v,e1,dv⟩:=da.at e
    !.inr ⟨a,xs,i,v,rfl,hy,(gA.of ha),e1,k v H d (Same.refl H) dv hf⟩
  | _=>!hf.elim
 | jW ns =>
  cases dy with
  | int i =>
   simp only [Dn] at hx hy
   &⟨a,rfl,ha⟩:=hx
   have hf:(match vE ns i with | some n=>Q3 (.int n) | none=>False):=hf
   cases e:vE ns i with
   | none=>rw [e] at hf; !hf.elim
   | some n =>
    rw [e] at hf
    !.inl ⟨a,_,i,.int n,rfl,hy,ha.sq,by rw [ZL,e]; rfl,k _ H (.int n) (Same.refl H) (by simp only [Dn]) hf⟩
  | _=>!hf.elim
 | _=>cases dy<;>!hf.elim
##ix3 {a b:Expr} {pos:Pos} {ta tb:WE} (ha:cU X a ta) (hb:cU X b tb) (hs:DQ b:=by intro _ _; rfl):cU X (.Subscript a b pos) (iM ixF ta tb) :=
 imp (aEa (Y7.or aCN) ha hb hs) fun _ _ _=>sM aEy
abbrev F1:=List D->(D->Prop)->Prop
def OT (f:F1) (t:WA):WE:=fun ρ Q=>t ρ fun ds=>f ds Q
def C3 (K:PySem.W.Frag) (r:List V->Hp->VK->Prop) (f:F1):Prop:=∀ (S:Addr->Prop) (H:Hp) (xs:List V) (ds:List D) (Q3:D->Prop) (Q:VK),(∀ a,H a=none->S a)->bC K S H ds xs->f ds Q3 ->
 (∀ v H' d,Same H H'->Dn K S H' d v->Q3 d->Q v H')->r xs H Q
def C3F (K:PySem.W.Frag) (r:List V->Hp->VK->Prop) (f:F1):Prop:=∀ (S:Addr->Prop) (H:Hp) (xs:List V) (ds:List D) (Q3:D->Prop) (Q:VK),(∀ a,H a=none->S a)->bC K S H ds xs->f ds Q3 ->
 (∀ p ys H' es,H p=none->H' p=some (.lst ys)->Same H H'->bC K (fun a=>S a/\a≠p) H' es ys->Q3 (.lst es)->Q (.ref p) H')->r xs H Q
##MP {K:PySem.W.Frag} {r:List V->Hp->VK->Prop} {f:F1} {t:WA} {σ:L2.St} {H:Hp} {Q:VK} (h3:C3 K r f) (h:lift K (OT f t) σ H Q):tCB r (UN K t) σ H Q:=by
 &⟨S,ρ,Q3,fc,sl,ht,k⟩:=h
 @⟨S,ρ,_,fc,sl,ht,fun vs H1 ds s1 d1 q1=>?_⟩
 !h3 S H1 vs ds Q3 Q (bP fc s1) d1 q1 fun v H' d s' d' q'=>k v H' d (s1.trans s') d' q'
##FZ {K:PySem.W.Frag} {r:List V->Hp->VK->Prop} {f:F1} {t:WA} {σ:L2.St} {H:Hp} {Q:VK} (h3:C3F K r f) (h:UO K (OT f t) σ H Q):tCB r (UN K t) σ H Q:=by
 &⟨S,ρ,Q3,fc,sl,ht,k⟩:=h
 @⟨S,ρ,_,fc,sl,ht,fun vs H1 ds s1 d1 q1=>?_⟩
 !h3 S H1 vs ds Q3 Q (bP fc s1) d1 q1 fun p ys H' es hp hp' s' d' q'=>k p ys H' es (s1.free hp) hp' (s1.trans s') d' q'
##D0 {x:Str} {p pos:Pos} {e:Expr} {es:List Expr} {t:WA} {id:String} {r:List V->Hp->VK->Prop} {f:F1} (hc:jI X (.builtin id) r) (h3:C3 X.K r f) (hv:bootBuiltins x=some (.builtin id)) (hg:Gl X x) (hm:X.mg x=none) (ha:zJ X (e::es) t) (hn:x ≠ "__name__" := by decide) (hdb:(x == ("__debug__" : Str))=false:=by decide)
  (he:starEach (e::es) X.env=(false,eval e X.env)::starEach es X.env:=by rfl) (hpl:(backTo pos (starEach es X.env)).any (·.1)=false:=by rfl):cU X (.Call (.Name x p) (e::es) [] pos) (OT f t) :=
 imp (sH hc hg hm hv ha hn hdb he hpl) fun _ _ _=>MP h3
##ZM {x:Str} {p pos:Pos} {e:Expr} {es:List Expr} {t:WA} {id:String} {r:List V->Hp->VK->Prop} {f:F1} (hc:jI X (.builtin id) r) (h3:C3F X.K r f) (hv:bootBuiltins x=some (.builtin id)) (hg:Gl X x) (hm:X.mg x=none) (ha:zJ X (e::es) t) (hn:x ≠ "__name__" := by decide) (hdb:(x == ("__debug__" : Str))=false:=by decide)
  (he:starEach (e::es) X.env=(false,eval e X.env)::starEach es X.env:=by rfl) (hpl:(backTo pos (starEach es X.env)).any (·.1)=false:=by rfl):HN X (.Call (.Name x p) (e::es) [] pos) (OT f t) :=
 imp (sH hc hg hm hv ha hn hdb he hpl) fun _ _ _=>FZ h3
##ZN {x:Str} {p pos:Pos} {e:Expr} {es:List Expr} {t:WA} {T:String} {r:List V->Hp->VK->Prop} {f:F1} (hc:jI X (.type T) r) (h3:C3 X.K r f) (hv:bootBuiltins x=some (.type T)) (hg:Gl X x) (hm:X.mg x=none) (ha:zJ X (e::es) t) (hn:x ≠ "__name__" := by decide) (hdb:(x == ("__debug__" : Str))=false:=by decide)
  (he:starEach (e::es) X.env=(false,eval e X.env)::starEach es X.env:=by rfl) (hpl:(backTo pos (starEach es X.env)).any (·.1)=false:=by rfl):cU X (.Call (.Name x p) (e::es) [] pos) (OT f t) :=
 imp (pH hc hg hm hv ha hn hdb he hpl) fun _ _ _=>MP h3
##UU {x:Str} {p pos:Pos} {e:Expr} {es:List Expr} {t:WA} {T:String} {r:List V->Hp->VK->Prop} {f:F1} (hc:jI X (.type T) r) (h3:C3F X.K r f) (hv:bootBuiltins x=some (.type T)) (hg:Gl X x) (hm:X.mg x=none) (ha:zJ X (e::es) t) (hn:x ≠ "__name__" := by decide) (hdb:(x == ("__debug__" : Str))=false:=by decide)
  (he:starEach (e::es) X.env=(false,eval e X.env)::starEach es X.env:=by rfl) (hpl:(backTo pos (starEach es X.env)).any (·.1)=false:=by rfl):HN X (.Call (.Name x p) (e::es) [] pos) (OT f t) :=
 imp (pH hc hg hm hv ha hn hdb he hpl) fun _ _ _=>FZ h3
def GA:F1
 | [.lst ds],Q=>Q (.int ds.length)
 | [.tup ds],Q=>Q (.int ds.length)
 | [.jW ns],Q=>Q (.int ns.length)
 | _,_=>False
##aCY {K:PySem.W.Frag}:C3 K (fun xs H Q=>∃ p ys,xs=[.ref p]/\(gH K H p ys\/gA K H p ys)/\Q (.int ys.length) H) GA:=by
 intro S H xs ds Q3 Q fc hd hf k
 match ds,hf with
 | [.lst es],hf =>
  &⟨v,r,rfl,h1,h2⟩:=hd.bV
  simp only [bC] at h2
  subst h2
  simp only [Dn] at h1
  &⟨a,ys,rfl,ha,sa,da⟩:=h1
  !⟨a,ys,rfl,.inl (gH.of ha),k _ H _ (Same.refl H) (by simp only [Dn]; rw [da.len]) hf⟩
 | [.tup es],hf =>
  &⟨v,r,rfl,h1,h2⟩:=hd.bV
  simp only [bC] at h2
  subst h2
  simp only [Dn] at h1
  &⟨a,ys,rfl,ha,da⟩:=h1
  !⟨a,ys,rfl,.inr (gA.of ha),k _ H _ (Same.refl H) (by simp only [Dn]; rw [da.len]) hf⟩
 | [.jW ns],hf =>
  &⟨v,r,rfl,h1,h2⟩:=hd.bV
  simp only [bC] at h2
  subst h2
  simp only [Dn] at h1
  &⟨a,rfl,ha⟩:=h1
  !⟨a,_,rfl,.inl ha.sq,k _ H _ (Same.refl H) (by simp only [Dn]; rw [List.length_map]) hf⟩
##aJm {p pos:Pos} {e:Expr} {t:WA} (hm:X.mg "len" = none) (ha:zJ X [e] t) (hg:Gl X "len" := by rfl)
  (he:starEach [e] X.env=(false,eval e X.env)::starEach [] X.env:=by rfl):cU X (.Call (.Name "len" p) [e] [] pos) (OT GA t):=D0 DS aCY PySem.boot_len hg hm ha § § he (by rfl)
def JI:F1
 | [.lst ds],Q=>Q (.tup ds)
 | [.tup ds],Q=>Q (.tup ds)
 | _,_=>False
##UV {K:PySem.W.Frag}:C3 K (fun xs H Q=>∃ p ys,xs=[.ref p]/\((gH K H p ys /\ ∀ l,H l=none->Q (.ref l) (upd H l (.tup ys)))\/(gA K H p ys/\Q (.ref p) H))) JI:=by
 intro S H xs ds Q3 Q fc hd hf k
 match ds,hf with
 | [.lst es],hf =>
  &⟨v,r,rfl,h1,h2⟩:=hd.bV
  simp only [bC] at h2
  subst h2
  simp only [Dn] at h1
  &⟨a,ys,rfl,ha,sa,da⟩:=h1
  @⟨a,ys,rfl,.inl ⟨gH.of ha,fun l hl=>k _ _ _ (aX hl) ?_ hf⟩⟩
  simp only [Dn]
  !⟨l,ys,rfl,bD,bC.fits (.same (aX hl)) _ _ da⟩
 | [.tup es],hf =>
  &⟨v,r,rfl,h1,h2⟩:=hd.bV
  simp only [bC] at h2
  subst h2
  have h1':=h1
  simp only [Dn] at h1
  &⟨a,ys,rfl,ha,da⟩:=h1
  !⟨a,ys,rfl,.inr ⟨(gA.of ha),k _ H _ (Same.refl H) h1' hf⟩⟩
##aCZ {p pos:Pos} {e:Expr} {t:WA} (hm:X.mg "tuple" = none) (hv:bootBuiltins "tuple" = some (.type "tuple")) (ha:zJ X [e] t) (hg:Gl X "tuple" := by rfl)
  (he:starEach [e] X.env=(false,eval e X.env)::starEach [] X.env:=by rfl):cU X (.Call (.Name "tuple" p) [e] [] pos) (OT JI t):=ZN zU UV hv hg hm ha § § he (by rfl)
def UW:F1
 | [.lst ds],Q=>Q (.lst ds)
 | [.tup ds],Q=>Q (.lst ds)
 | _,_=>False
##ZO {K:PySem.W.Frag}:C3F K (fun xs H Q=>∃ p ys,xs=[.ref p]/\(gH K H p ys\/gA K H p ys) /\ ∀ l,H l=none->Q (.ref l) (upd H l (.lst ys))) UW:=by
 intro S H xs ds Q3 Q fc hd hf k
 match ds,hf with
 | [.lst es],hf =>
  &⟨v,r,rfl,h1,h2⟩:=hd.bV
  simp only [bC] at h2
  subst h2
  simp only [Dn] at h1
  &⟨a,ys,rfl,ha,sa,da⟩:=h1
  !⟨a,ys,rfl,.inl (gH.of ha),fun l hl=>k l ys _ es hl bD (aX hl) (bC.fits ((Fits.fresh hl).trans (.same (aX hl))) _ _ da) hf⟩
 | [.tup es],hf =>
  &⟨v,r,rfl,h1,h2⟩:=hd.bV
  simp only [bC] at h2
  subst h2
  simp only [Dn] at h1
  &⟨a,ys,rfl,ha,da⟩:=h1
  !⟨a,ys,rfl,.inr (gA.of ha),fun l hl=>k l ys _ es hl bD (aX hl) (bC.fits ((Fits.fresh hl).trans (.same (aX hl))) _ _ da) hf⟩
##aEz {p pos:Pos} {e:Expr} {t:WA} (hm:X.mg "list" = none) (hv:bootBuiltins "list" = some (.type "list")) (ha:zJ X [e] t) (hg:Gl X "list" := by rfl)
  (he:starEach [e] X.env=(false,eval e X.env)::starEach [] X.env:=by rfl):HN X (.Call (.Name "list" p) [e] [] pos) (OT UW t):=UU DT ZO hv hg hm ha § § he (by rfl)
abbrev Spec:=List D->(D->Prop)->Prop
def sp3 (K:PySem.W.Frag) (R:Spec):Sp:=fun vs H Q _=>∃ (S:Addr->Prop) (ds:List D) (Q3:D->Prop),(∀ a,H a=none->S a)/\bC K S H ds vs/\R ds Q3 /\ ∀ v H' d,Same H H'->Dn K S H' d v->Q3 d->Q v H'
##aFA {k:Nat} {f:Addr} {fd:FuncData} {ps:List Str} {R:Spec} {x:Str} {p pos:Pos} {e:Expr} {es:List Expr} {t:WA} (F:aW X.prog X.w X.K X.mg X.base dO k f fd ps (sp3 X.K R)) (hr:lA k X.A) (hm:X.mg x=some (.ref f)) (hk:PySem.W.keepIn X.K (.ref f)=true) (hb:Binds X.K fd ps [])
  (ha:zJ X (e::es) t) (hg:Gl X x:=by rfl) (hdb:(x == ("__debug__" : Str))=false:=by decide) (he:starEach (e::es) X.env=(false,eval e X.env)::starEach es X.env:=by rfl) (hpl:(backTo pos (starEach es X.env)).any (·.1)=false:=by rfl) :
  cU X (.Call (.Name x p) (e::es) [] pos) (OT R t):=imp (DO F hr hg hm hk hb .nil aEg ha hdb he hpl) fun σ H Q aJn=>by
 &⟨S,ρ,Q3,fc,sl,ht,k⟩:=aJn
 @⟨S,ρ,_,fc,sl,ht,fun vs H1 ds s1 d1 q1=>?_⟩
 show sp3 X.K R (vs++[]) H1 Q E0
 rw [List.append_nil]
 !⟨S,ds,Q3,bP fc s1,d1,q1,fun v H' d s' d' q'=>k v H' d (s1.trans s') d' q'⟩
end
structure DE where
 nx:aP->Prop
 rt:D->Prop
 bk:aP->Prop:=fun _=>False
 ct:aP->Prop:=fun _=>False
 ex:Str->Prop:=fun _=>False
abbrev WS:=DE->aP->Prop
structure D1 (X:Cx) (pins:List (Addr×Obj)) (H:Hp) (s:Shared) (e:Addr) (cls a0:Value) (P:List Addr):Prop where
 mem:e∈P
 free:∀ q∈P,H q=none
 new:∀ q∈P,X.s₀.heap.get? q=none
 fld:∀ q∈P,∃ o vs,s.heap.get? q=some o/\o.data=.fields vs
 pin:∀ q∈P,∀ p∈X.pn++pins,p.1≠q
 tr:(∃ oe vs,s.heap.get? e=some oe/\oe.cls=cls/\oe.data=.fields vs/\vs[1]? = some .none/\vs[0]? = some a0) \/
  (∃ oe vs T oT ts,s.heap.get? e=some oe/\(oe.cls=cls/\vs[0]? = some a0)/\oe.data=.fields vs/\vs[1]? = some (.ref T)/\T∈P/\T≠e/\s.heap.get? T=some oT/\oT.data=.fields ts/\ts[3]? = some .none)
def XC (X:Cx) (c:Str) (H:Hp):Prop:=∃ C:Addr,X.mg c=some (.ref C) /\ ∀ (pins:List (Addr×Obj)) (σ:L2.St) (s:Shared) (e:Addr) (a0:Value) (P:List Addr),Inv X pins σ H s->D1 X pins H s e (.ref C) a0 P->X.xe (.ref e) s
structure aC0 (K:PySem.W.Frag) (xc:Str->Hp->Prop) (n:Nat) (H₀:Hp) (S:Addr->Prop) (G:List (D×V)) (E:DE) (B:Ends):Prop where
 nx:∀ w σ H ρ,σ.length=n->ST K H₀ S w σ H ρ G->E.nx ρ->B.nx σ H
 rt:∀ v H d,Same H₀ H->Dn K S H d v->E.rt d->B.rt v H
 bk:∀ w σ H ρ,σ.length=n->ST K H₀ S w σ H ρ G->E.bk ρ->B.bk σ H
 ct:∀ w σ H ρ,σ.length=n->ST K H₀ S w σ H ρ G->E.ct ρ->B.ct σ H
 ex:∀ c H,Same H₀ H->E.ex c->xc c H
def aAf (K:PySem.W.Frag) (xc:Str->Hp->Prop) (n:Nat) (t:WS):TS:=fun B σ H=>∃ (H₀:Hp) (S:Addr->Prop) (w:Nat->Addr) (ρ:aP) (G:List (D×V)) (E:DE),σ.length=n/\ST K H₀ S w σ H ρ G/\t E ρ/\aC0 K xc n H₀ S G E B
def EM (X:Cx) (st:Stmt) (t:WS):Prop:=PS X st (aAf X.K (XC X) X.N.length t)
def vG (X:Cx) (st:List Stmt) (t:WS):Prop:=HM X st (aAf X.K (XC X) X.N.length t)
section
variable {X:Cx}
##j3 {e:Stmt} {t t':TS} (h:PS X e t) (f:∀ B σ H,t' B σ H->t B σ H):PS X e t':=fun pins s σ H B I q=>h pins s σ H B I (f B σ H q)
##MQ {e:List Stmt} {t t':TS} (h:HM X e t) (f:∀ B σ H,t' B σ H->t B σ H):HM X e t':=fun pins s σ H B I q=>h pins s σ H B I (f B σ H q)
def aFB:WS:=fun E ρ=>E.nx ρ
def aC1 (t u:WS):WS:=fun E ρ=>t { E with nx:=u E } ρ
##aJo:vG X [] aFB:=MQ YS fun B σ H aJp=>by &⟨H₀,S,w,ρ,G,E,hl,st,ht,ok⟩:=aJp; !ok.nx w σ H ρ hl st ht
##aJq {st:Stmt} {rest:List Stmt} {t u:WS} (h1:EM X st t) (h2:vG X rest u):vG X (st::rest) (aC1 t u):=MQ (TK h1 h2) fun B σ H aJr=>by
 &⟨H₀,S,w,ρ,G,E,hl,sT,ht,ok⟩:=aJr
 !⟨H₀,S,w,ρ,G,{ E with nx:=u E },hl,sT,ht,⟨fun w' σ' H' ρ' hl' st' q=>⟨H₀,S,w',ρ',G,E,hl',st',q,ok⟩,ok.rt,ok.bk,ok.ct,ok.ex⟩⟩
##aFC {st:Stmt} {t:WS} (h1:EM X st t):vG X [st] t:=MQ (YT h1) fun _ _ _ h=>h
def aJs (t:WE):WS:=fun E ρ=>t (bT ρ) E.rt
##aJt {e:Expr} {t:WE} {pos:Pos} (h:cU X e t):EM X (.Return (some e) pos) (aJs t):=j3 (TL h) fun B σ H aJu=>by
 &⟨H₀,S,w,ρ,G,E,hl,st,ht,ok⟩:=aJu
 !⟨S,bT ρ,E.rt,st.OQ,st.all,ht,fun v H' d s' d' q'=>ok.rt v H' d (st.sm.trans s') d' q'⟩
def aJv (c:WT) (t u:WS):WS:=fun E ρ=>c (bT ρ) fun b=>if b=true then t E ρ else u E ρ
##aJw {c:Expr} {a b:List Stmt} {pos:Pos} {tc:WT} {t u:WS} (hc:vY X c tc) (ha:vG X a t) (hb:vG X b u):EM X (.If c a b pos) (aJv tc t u):=j3 (aET hc ha hb) fun B σ H aJx=>by
 &⟨H₀,S,w,ρ,G,E,hl,st,ht,ok⟩:=aJx
 @⟨S,bT ρ,_,st.OQ,st.all,ht,fun d H1 s1 q1=>?_⟩
 cases d with
 | true=>rw [if_pos rfl] at q1 ⊢; !⟨H₀,S,w,ρ,G,E,hl,st.same s1,q1,ok⟩
 | false=>rw [if_neg Bool.false_ne_true] at q1 ⊢; !⟨H₀,S,w,ρ,G,E,hl,st.same s1,q1,ok⟩
def aJy (i:Nat) (t:WE):WS:=fun E ρ=>t (kD ρ) fun d=>E.nx (ρ.set i (.ro d))
def aC2 (i:Nat) (t:WE):WS:=fun E ρ=>t (kD ρ) fun d=>E.nx (ρ.set i (.ow d))
section
variable {i:Nat} {x:Str} {e:Expr} {t:WE} {pos pos':Pos}
##iO {N:List Str} {i:Nat} {x:Str} (h:N[i]? = some x):i<N.length:=(List.getElem?_eq_some_iff.mp h).1
##aJz (hN:X.N.Nodup) (he:cU X e t) (hi:X.N[i]? = some x:=by rfl) (hx:Loc X.env.scope x:=by first | !.inl rfl | !.inr rfl) (hs:swapsWith e (some (.Name x pos')) pos.line X.env=pure false:=by rfl) (hf:X.fn x=true\/X.env.scope.names.lookup x=some .local:=by first | !.inl rfl | !.inr rfl) :
  EM X (.Assign [.Name x pos'] e pos) (aJy i t):=j3 (oG hN hi hx he hs hf) fun B σ H aKA=>by
 &⟨H₀,S,w,ρ,G,E,hl,st,ht,ok⟩:=aKA
 !⟨_,kD ρ,_,st.UM,st.rd,ht,fun v H' d s' d' q'=>ok.nx w _ H' _ (by rw [List.length_set]; !hl) ((st.same s').nF (by rw [hl]; !iO hi) d') q'⟩
##aKB (hN:X.N.Nodup) (he:HN X e t) (hi:X.N[i]? = some x:=by rfl) (hx:Loc X.env.scope x:=by first | !.inl rfl | !.inr rfl) (hs:swapsWith e (some (.Name x pos')) pos.line X.env=pure false:=by rfl) (hf:X.fn x=true\/X.env.scope.names.lookup x=some .local:=by first | !.inl rfl | !.inr rfl) :
  EM X (.Assign [.Name x pos'] e pos) (aC2 i t):=j3 (oG hN hi hx he hs hf) fun B σ H aKC=>by
 &⟨H₀,S,w,ρ,G,E,hl,st,ht,ok⟩:=aKC
 !⟨_,kD ρ,_,st.UM,st.rd,ht,fun p xs H' ds hp hp' s' d' q'=>ok.nx _ _ H' _ (by rw [List.length_set]; !hl) (st.xO (d:=.lst ds) (by rw [hl]; !iO hi) s' hp ⟨xs,hp',d'⟩) q'⟩
end
def lO (N:List Str) (ds:List D):aP:=ds.map Sv.ro++List.replicate (N.length - ds.length) Sv.no
##GB {K:PySem.W.Frag} {H:Hp} {S:Addr->Prop} {N:List Str} {ds:List D} {vs:List V} (fc:∀ a,H a=none->S a) (h:bC K S H ds vs):ST K H S (fun _=>0) (L2.start N vs) H (lO N ds) []:=by
 have no:∀ (i:Nat) (d:D),(lO N ds)[i]?≠some (Sv.ow d):=fun i d e=>by
  ~lO at e
  by_cases hi:i<ds.length
  ·rw [List.getElem?_append_left (¥hi),List.getElem?_map] at e
   cases q:ds[i]? with
   | none=>rw [q] at e; cases e
   | some a=>rw [q] at e; cases e
  ·rw [List.getElem?_append_right (¥hi),List.getElem?_replicate] at e
   split at e<;>cases e
 have so:∀ a,S a->SO S (fun _=>0) (lO N ds) a:=fun a s=>⟨s,fun i d e=>absurd e (no i d)⟩
 @⟨fc,Same.refl H,fun i d e=>absurd e (no i d),fun i j d e h1=>absurd h1 (no i d),fun i d e=>?_,fun g hg=>nomatch hg⟩
 ~lO at e
 by_cases hi:i<ds.length
 ·rw [List.getElem?_append_left (¥hi),List.getElem?_map] at e
  cases q:ds[i]? with
  | none=>rw [q] at e; cases e
  | some a =>
   rw [q] at e
   cases e
   &⟨v,e1,dv⟩:=h.get q
   @⟨v,?_,Dn.fits (.mono so) _ _ dv⟩
   ~L2.start
   have hv:i<vs.length:=(List.getElem?_eq_some_iff.mp e1).1
   rw [List.getElem?_append_left (¥hv),List.getElem?_map,e1]
   rfl
 ·rw [List.getElem?_append_right (¥hi),List.getElem?_replicate] at e
  split at e<;>cases e
##aKD {P:Program} {w:World} {K:PySem.W.Frag} {mg:Str->Option Value} {base:Heap} {x qual:Str} {st:Stmt} {f:Addr} {fd:FuncData} {N ps:List Str} {k:Nat} {R:Spec} (F:nU K x qual st f fd) (S:bH N ps (aI st)) (len:∀ ds Q,R ds Q->ds.length=ps.length)
  (hbody:∀ (cdv:Value) (A:Around) (outer:List Env) (s:Shared) (H:Hp) (E:XK),lA k (A.deeper (envOfC qual (aI st) s.heap.objs.size f cdv)) ->
   ∃ t:WS,vG (t6 dO P w K mg base N qual (aI st) f cdv A outer s H E).nox (bE st) t /\ ∀ ds Q,R ds Q->t { nx:=fun _=>Q .non,rt:=Q } (lO N ds)):aW P w K mg base dO (k+1) f fd ps (sp3 K R):=by
 @F.ok S (fun vs H Q E h=>?_) fun cdv A outer s H vs Q E hr h=>?_
 ·&⟨S',ds,Q3,fc,dn,r,_⟩:=h
  rw [<- dn.len]
  !len ds Q3 r
 ·&⟨t,ht,hq⟩:=hbody cdv A outer s H E hr
  &⟨S',ds,Q3,fc,dn,r,kk⟩:=h
  @⟨_,ht,H,S',fun _=>0,lO N ds,[],{ nx:=fun _=>Q3 .non,rt:=Q3 },?_,GB fc dn,hq ds Q3 r,⟨fun w' σ' H' ρ' _ st' q=>?_,fun v H' d s' d' q=>kk v H' d s' d' q,fun _ _ _ _ _ _ q=>q,fun _ _ _ _ _ _ q=>q,fun _ _ _ q=>q.elim⟩⟩
  ·have hl:=len ds Q3 r
   have hl2:=dn.len
   have hp:ps.length<=N.length:=by have:=congrArg List.length S.pre; rw [List.length_take] at this; omega
   ~L2.start
   show _=N.length
   rw [List.length_append,List.length_map,List.length_replicate]
   omega
  ·!kk .non H' .non st'.sm (by simp only [Dn]) q
end
abbrev WX:=aP->(aP->D->Prop)->Prop
def UX (K:PySem.W.Frag) (n:Nat) (t:WX):TE:=fun σ H Q=>∃ (H₀:Hp) (S:Addr->Prop) (w:Nat->Addr) (ρ:aP) (G:List (D×V)) (Q3:aP->D->Prop),σ.length=n/\ST K H₀ S w σ H ρ G/\t ρ Q3 /\
 ∀ w' v H' ρ' d,ST K H₀ S w' σ H' ρ' G->Dn K (SO S w' ρ') H' d v->Q3 ρ' d->Q v H'
def GC (X:Cx) (e:Expr) (t:WX):Prop:=PE X e (UX X.K X.N.length t)
def aFD (t:WE):WX:=fun ρ Q=>t (bT ρ) fun d=>d.vN=true/\Q ρ d
def aC3 (t:WE):WX:=fun ρ Q=>t (kD ρ) fun d=>Q ρ d
section
variable {X:Cx}
##px3 {e:Expr} {t:WE} (h:cU X e t):GC X e (aFD t):=imp h fun σ H Q aKE=>by
 &⟨H₀,S,w,ρ,G,Q3,hl,st,ht,k⟩:=aKE
 !⟨S,bT ρ,_,st.OQ,st.all,ht,fun v H' d s' d' q'=>k w v H' ρ d (st.same s') (Dn.vN q'.1 d') q'.2⟩
##aKF {e:Expr} {t:WE} (h:cU X e t):GC X e (aC3 t):=imp h fun σ H Q aKG=>by
 &⟨H₀,S,w,ρ,G,Q3,hl,st,ht,k⟩:=aKG
 !⟨_,kD ρ,_,st.UM,st.rd,ht,fun v H' d s' d' q'=>k w v H' ρ d (st.same s') d' q'⟩
def aFE (i:Nat) (t:WX):WS:=fun E ρ=>t ρ fun ρ' d=>E.nx (ρ'.set i (.ro d))
##aFF {i:Nat} {x:Str} {e:Expr} {t:WX} {pos pos':Pos} (hN:X.N.Nodup) (he:GC X e t) (hi:X.N[i]? = some x:=by rfl) (hx:Loc X.env.scope x:=by first | !.inl rfl | !.inr rfl) (hs:swapsWith e (some (.Name x pos')) pos.line X.env=pure false:=by rfl) (hf:X.fn x=true\/X.env.scope.names.lookup x=some .local:=by first | !.inl rfl | !.inr rfl) :
  EM X (.Assign [.Name x pos'] e pos) (aFE i t):=j3 (oG hN hi hx he hs hf) fun B σ H aKH=>by
 &⟨H₀,S,w,ρ,G,E,hl,st,ht,ok⟩:=aKH
 !⟨H₀,S,w,ρ,G,_,hl,st,ht,fun w' v H' ρ' d st' d' q'=>ok.nx w' _ H' _ (by rw [List.length_set]; !hl) (st'.nF (by rw [hl]; !iO hi) d') q'⟩
def aFG (t:WX):WS:=fun E ρ=>t ρ fun ρ' _=>E.nx ρ'
##aFH {e:Expr} {t:WX} {pos:Pos} (he:GC X e t) (hs:swapsWith e none pos.line X.env=pure false:=by rfl):EM X (.Expr e pos) (aFG t):=j3 (L1 he hs) fun B σ H aKI=>by
 &⟨H₀,S,w,ρ,G,E,hl,st,ht,ok⟩:=aKI
 !⟨H₀,S,w,ρ,G,_,hl,st,ht,fun w' v H' ρ' d st' d' q'=>ok.nx w' _ H' _ hl st' q'⟩
def wM1 (i:Nat) (f:List D->D->(List D->D->Prop)->Prop) (t:WX):WX:=fun ρ Q=>(match ρ[i]? with | some (.ow (.lst _))=>True | _=>False)/\t ρ fun ρ' d=>match ρ'[i]? with
 | some (.ow (.lst ds))=>f ds d fun ds' r=>Q (ρ'.set i (.ow (.lst ds'))) r
 | _=>False
def M3 (K:PySem.W.Frag) (r:V->List V->Hp->VK->Prop) (f:List D->D->(List D->D->Prop)->Prop):Prop:=∀ (S:Addr->Prop) (H:Hp) (p:Addr) (xs:List V) (ds:List D) (y:V) (d:D) (Q3:List D->D->Prop) (Q:VK),
 H p=some (.lst xs)->bC K S H ds xs->Dn K S H d y->f ds d Q3->(∀ ys ds' v d',bC K S H ds' ys->Dn K S H d' v->Q3 ds' d'->Q v (upd H p (.lst ys)))->r (.ref p) [y] H Q
##ZP {K:PySem.W.Frag} {n i:Nat} {r:V->List V->Hp->VK->Prop} {f:List D->D->(List D->D->Prop)->Prop} {t:WX} {σ:L2.St} {H:Hp} {Q:VK} (h3:M3 K r f) (h:UX K n (wM1 i f t) σ H Q) :
  tBM K "list" r (aBh i) (aA7 (UX K n t) aE5) σ H Q:=by
 &⟨H₀,S,w,ρ,G,Q3,hl,st,⟨h0,ht⟩,k⟩:=h
 split at h0
 ·rename_i ds e
  &⟨a,b,c⟩:=st.own i _ e
  &⟨xs,hp,dn⟩:=c
  @⟨_,a,.inl ⟨rfl,xs,gH.of hp⟩,H₀,S,w,ρ,G,_,hl,st,ht,fun w' v H' ρ' d st' d' q'=>?_⟩
  split at q'
  ·rename_i ds' e'
   &⟨a',b',c'⟩:=st'.own i _ e'
   &⟨xs',hp',dn'⟩:=c'
   have ew:w i=w' i:=by
    have z:=a.symm.trans a'
    have z1:=Option.some.inj (Option.some.inj z)
    injection z1
   rw [ew]
   @h3 _ H' (w' i) xs' ds' v d _ Q hp' dn' d' q' fun ys ds2 v2 d2 Q2 dv2 q2=>?_
   have nS:¬ SO S w' ρ' (w' i):=fun ⟨_,z⟩=>z i _ e' rfl
   have F:Fits K (SO S w' ρ') (SO S w' ρ') H' (upd H' (w' i) (.lst ys)):=.upd (.inl ⟨_,hp'⟩) nS
   have so:∀ a,SO S w' ρ' a->SO S w' (ρ'.set i (.ow (.lst ds2))) a:=SO.mono fun j f hf=>by
    rcases get_set hf with ⟨hj,_,_⟩ | ⟨_,z⟩
    ·subst hj; !⟨_,e'⟩
    ·!⟨_,z⟩
   !k w' v2 _ _ d2 (st'.write (d':=.lst ds2) e' ⟨ys,bD,bC.fits F _ _ Q2⟩) (Dn.fits (F.trans (.mono so)) _ _ dv2) q2
  ·!q'.elim
 ·!h0.elim
##m1 {i:Nat} {x:Str} {id:String} {name:Str} {e:Expr} {p apos cpos:Pos} {r:V->List V->Hp->VK->Prop} {f:List D->D->(List D->D->Prop)->Prop} {t:WX} (slot:Slot "list" name id) (hty:typeOf (.builtin id)=pure (.type "method_descriptor")) (hm:MtR X id r) (h3:M3 X.K r f) (he:GC X e t)
  (hN:X.N[i]? = some x:=by rfl) (hv:EL X.env.scope x:=by first | !Or.inl rfl | !Or.inr (Or.inl rfl) | !Or.inr (Or.inr rfl)) (hd:(x == ("__debug__" : Str))=false:=by decide) (hcd:(x == ("__classdict__" : Str))=false:=by decide)
  (hbase:attributeBase (.Name x p) name X.env (eval (.Name x p) X.env)=eval (.Name x p) X.env:=by rfl)
  (hfew:((backTo cpos (starEach [e] X.env)).all (fun x=>!x.1)&&(backToKw cpos (keywordEach [] X.env)).all (fun x=>x.1.isSome)
   && decide ([e].length+([]:List Keyword).length+(if ([]:List Keyword).isEmpty then 0 else 1)<30))=true:=by rfl)
  (hline:(apos.endLine == cpos.line)=true:=by rfl) (hs:starEach [e] X.env=(false,eval e X.env)::starEach [] X.env:=by rfl) :
  GC X (.Call (.Attribute (.Name x p) name apos) [e] [] cpos) (wM1 i f t) :=
 imp (aEd PySem.F.plainAttrs_list slot hty hm (t5 hN hv hd hcd) (nE he xM hs) hbase hfew hline hs (by rfl)) fun _ _ _ h=>ZP h3 h
def aC4:List D->D->(List D->D->Prop)->Prop:=fun ds d Q=>ds.length<sizeLine/\Q (ds++[d]) .non
##aC5 {K:PySem.W.Frag}:M3 K MJ aC4:=by
 intro S H p xs ds y d Q3 Q hp dn dy hf k
 !⟨p,xs,y,rfl,rfl,hp,by rw [<- dn.len]; !hf.1,k _ _ _ _ (dn.append (bC.one dy)) (by simp only [Dn]) hf.2⟩
def aC6:List D->D->(List D->D->Prop)->Prop
 | ds,.int k,Q=>(-(2 ^ 63)<=k/\k<2 ^ 63)/\(match Y6 ds.length k with | some j=>(match ds[j]? with | some d=>Q (ds.eraseIdx j) d | none=>False) | none=>False)
 | _,_,_=>False
##aC7 {K:PySem.W.Frag}:M3 K UA aC6:=by
 intro S H p xs ds y d Q3 Q hp dn dy hf k
 cases d with
 | int i =>
  simp only [Dn] at dy
  subst dy
  &⟨⟨h1,h2⟩,hf⟩:=hf
  split at hf
  ·rename_i j ej
   split at hf
   ·rename_i dd ed
    &⟨v,ev,dv⟩:=dn.get ed
    &⟨g1,_⟩:=MH ej
    !⟨p,xs,i,j,v,rfl,rfl,hp,h1,h2,by rw [<- dn.len]; !g1,ev,k _ _ _ _ (dn.erase j) dv hf⟩
   ·!hf.elim
  ·!hf.elim
 | _=>!hf.elim
section
variable {i:Nat} {x:Str} {e:Expr} {p apos cpos:Pos} {t:WX}
##aKK (he:GC X e t) (hN:X.N[i]? = some x:=by rfl) (hv:EL X.env.scope x:=by first | !Or.inl rfl | !Or.inr (Or.inl rfl) | !Or.inr (Or.inr rfl)) (hd:(x == ("__debug__" : Str))=false:=by decide) (hcd:(x == ("__classdict__" : Str))=false:=by decide)
  (hbase:attributeBase (.Name x p) "append" X.env (eval (.Name x p) X.env)=eval (.Name x p) X.env:=by rfl)
  (hfew:((backTo cpos (starEach [e] X.env)).all (fun x=>!x.1)&&(backToKw cpos (keywordEach [] X.env)).all (fun x=>x.1.isSome)
   && decide ([e].length+([]:List Keyword).length+(if ([]:List Keyword).isEmpty then 0 else 1)<30))=true:=by rfl)
  (hline:(apos.endLine == cpos.line)=true:=by rfl) (hs:starEach [e] X.env=(false,eval e X.env)::starEach [] X.env:=by rfl) :
  GC X (.Call (.Attribute (.Name x p) "append" apos) [e] [] cpos) (wM1 i aC4 t):=m1 PySem.F.slot_list_append PySem.F.type_list_append BO aC5 he hN hv hd hcd hbase hfew hline hs
##aKL (he:GC X e t) (hN:X.N[i]? = some x:=by rfl) (hv:EL X.env.scope x:=by first | !Or.inl rfl | !Or.inr (Or.inl rfl) | !Or.inr (Or.inr rfl)) (hd:(x == ("__debug__" : Str))=false:=by decide) (hcd:(x == ("__classdict__" : Str))=false:=by decide)
  (hbase:attributeBase (.Name x p) "pop" X.env (eval (.Name x p) X.env)=eval (.Name x p) X.env:=by rfl)
  (hfew:((backTo cpos (starEach [e] X.env)).all (fun x=>!x.1)&&(backToKw cpos (keywordEach [] X.env)).all (fun x=>x.1.isSome)
   && decide ([e].length+([]:List Keyword).length+(if ([]:List Keyword).isEmpty then 0 else 1)<30))=true:=by rfl)
  (hline:(apos.endLine == cpos.line)=true:=by rfl) (hs:starEach [e] X.env=(false,eval e X.env)::starEach [] X.env:=by rfl) :
  GC X (.Call (.Attribute (.Name x p) "pop" apos) [e] [] cpos) (wM1 i aC6 t):=m1 PySem.F.slot_list_pop PySem.F.type_list_pop UB aC7 he hN hv hd hcd hbase hfew hline hs
end
end
structure Wlk (K:PySem.W.Frag) (J:It) (ds:List D) (G:List (D×V)):Prop where
 go:∀ (S:Addr->Prop) (H:Hp),(∀ a,H a=none->S a)->(∀ g∈G,Dn K S H g.1 g.2) -> ∀ (i:Nat) (d:D),ds[i]? = some d->J.go i H /\ ∀ x H',J.yld i H x H'->Same H H'/\Dn K S H' d x
 stop:∀ (S:Addr->Prop) (H:Hp),(∀ g∈G,Dn K S H g.1 g.2) -> ∀ i:Nat,ds.length=i->J.stop i H
abbrev WI:=bR->(List D->Prop)->Prop
def aAg (K:PySem.W.Frag) (t:WI):TI:=fun σ H R=>∃ (S:Addr->Prop) (ρ:bR) (Q3:List D->Prop),(∀ a,H a=none->S a)/\Sl K S H ρ σ/\t ρ Q3 /\
 ∀ J H' ds G,Same H H'->(∀ g∈G,Dn K S H' g.1 g.2)->Wlk K J ds G->Q3 ds->R J H'
def UY (X:Cx) (tg iter:Expr) (t:WI):Prop:=PI X tg iter (aAg X.K t)
section
variable {X:Cx} {tg:Expr}
##OU {e:Expr} {t t':TI} (h:PI X tg e t) (f:∀ σ H R,t' σ H R->t σ H R):PI X tg e t':=fun pins s σ H R I q=>h pins s σ H R I (f σ H R q)
def aFI (t:WE):WI:=fun ρ Q=>t ρ fun d=>match d with
 | .lst ds=>Q ds
 | .tup ds=>Q ds
 | _=>False
##UZ {K:PySem.W.Frag} {a:Addr} {ds:List D}:Wlk K (Itl K a) ds [(.lst ds,.ref a)] where
 go:=fun S H fc hg i d e=>by
  have h:=hg _ (List.mem_singleton.mpr rfl)
  simp only [Dn] at h
  &⟨b,xs,eb,hb,sb,dn⟩:=h
  injection eb with eb
  subst eb
  &⟨v,ev,dv⟩:=dn.get e
  @⟨⟨xs,v,gH.of hb,ev⟩,fun x H' y=>?_⟩
  &⟨e1,y⟩:=y
  subst e1
  have ex:=y xs (gH.of hb)
  rw [ev] at ex
  cases ex
  !⟨Same.refl _,dv⟩
 stop:=fun S H hg i hi=>by
  have h:=hg _ (List.mem_singleton.mpr rfl)
  simp only [Dn] at h
  &⟨b,xs,eb,hb,sb,dn⟩:=h
  injection eb with eb
  subst eb
  !⟨xs,gH.of hb,by rw [<- dn.len]; !Nat.le_of_eq hi⟩
##ZQ {K:PySem.W.Frag} {a:Addr} {ds:List D}:Wlk K (Itt K a) ds [(.tup ds,.ref a)] where
 go:=fun S H fc hg i d e=>by
  have h:=hg _ (List.mem_singleton.mpr rfl)
  simp only [Dn] at h
  &⟨b,xs,eb,hb,dn⟩:=h
  injection eb with eb
  subst eb
  &⟨v,ev,dv⟩:=dn.get e
  @⟨⟨xs,v,(gA.of hb),ev⟩,fun x H' y=>?_⟩
  &⟨e1,y⟩:=y
  subst e1
  have ex:=y xs (gA.of hb)
  rw [ev] at ex
  cases ex
  !⟨Same.refl _,dv⟩
 stop:=fun S H hg i hi=>by
  have h:=hg _ (List.mem_singleton.mpr rfl)
  simp only [Dn] at h
  &⟨b,xs,eb,hb,dn⟩:=h
  injection eb with eb
  subst eb
  !⟨xs,(gA.of hb),by rw [<- dn.len]; !Nat.le_of_eq hi⟩
##aC9 {l:Expr} {tl:TE} (hl:PE X l tl):PI X tg l (fun σ H R=>tl σ H fun x H1=>∃ a,x=.ref a/\(((∃ xs,gH X.K H1 a xs)/\R (Itl X.K a) H1)\/((∃ xs,gA X.K H1 a xs)/\R (Itt X.K a) H1))):=by
 intro pins s σ H R I h
 @dN (hl pins s σ H _ I h) fun v s1 aKM=>?_
 &⟨x,H1,I1,r1,q1⟩:=aKM
 &⟨a,e,q⟩:=q1
 subst e
 cases r1
 rcases q with ⟨⟨xs,hq⟩,q⟩ | ⟨⟨xs,hq⟩,q⟩
 ·&⟨its,rv,p,hz⟩:=I1.list hq
  @wpAny_pyIter_list p.isList ?_
  @⟨s1.heap.objs.size,[s1.heap.objs.size],_,_,H1,rfl,I1.kept (t':=s1.toks) fun b o e=>Heap.get?_push_of_some _ e,N9 a _,⟨_,Heap.get?_push_size _ rfl,rfl,rfl⟩,fun b hb=>?_,q⟩
  have e:b=s1.heap.objs.size:=¥hb
  subst e
  !I1.IV (Nat.le_refl _) (I1.hok.fresh (Nat.le_refl _))
 ·&⟨its,rv,p,hz⟩:=I1.tuple hq
  @wpAny_pyIter_tuple (show s1.heap.IsTuple a its.toArray from p) ?_
  @⟨s1.heap.objs.size,[s1.heap.objs.size],_,_,H1,rfl,I1.kept (t':=s1.toks) fun b o e=>Heap.get?_push_of_some _ e,IW a _,⟨_,Heap.get?_push_size _ rfl,rfl,rfl⟩,fun b hb=>?_,q⟩
  have e:b=s1.heap.objs.size:=¥hb
  subst e
  !I1.IV (Nat.le_refl _) (I1.hok.fresh (Nat.le_refl _))
##aFJ {l:Expr} {t:WE} (h:cU X l t):UY X tg l (aFI t):=OU (aC9 h) fun σ H R aKN=>by
 &⟨S,ρ,Q3,fc,sl,ht,k⟩:=aKN
 @⟨S,ρ,_,fc,sl,ht,fun v H1 d s1 d1 q1=>?_⟩
 cases d with
 | lst ds =>
  have d1':=d1
  simp only [Dn] at d1
  &⟨a,xs,rfl,ha,sa,da⟩:=d1
  !⟨a,rfl,.inl ⟨⟨xs,gH.of ha⟩,k _ H1 ds [(.lst ds,.ref a)] s1 (fun g hg=>by cases List.mem_singleton.mp hg; !d1') UZ q1⟩⟩
 | tup ds =>
  have d1':=d1
  simp only [Dn] at d1
  &⟨a,xs,rfl,ha,da⟩:=d1
  !⟨a,rfl,.inr ⟨⟨xs,(gA.of ha)⟩,k _ H1 ds [(.tup ds,.ref a)] s1 (fun g hg=>by cases List.mem_singleton.mp hg; !d1') ZQ q1⟩⟩
 | _=>!q1.elim
def t8 (lo:Int) (n:Nat):List Int:=(List.range n).map fun k:Nat=>lo+(k:Int)
##uT (lo:Int) (n:Nat):(t8 lo n).length=n:=by simp [t8]
##U0 {lo:Int} {n i:Nat}:(t8 lo n)[i]? = if i<n then some (lo+(i:Int)) else none:=by
 ~t8
 rw [List.getElem?_map]
 by_cases h:i<n
 ·rw [if_pos h,List.getElem?_range h]; rfl
 ·rw [if_neg h,List.getElem?_eq_none (¥h)]; rfl
##BV {K:PySem.W.Frag} {lo:Int} {n:Nat}:Wlk K (Itr lo n) ((t8 lo n).map D.int) [] where
 go:=fun S H fc hg i d e=>by
  rw [List.getElem?_map,U0] at e
  by_cases h:i<n
  ·rw [if_pos h] at e
   cases e
   @⟨h,fun x H' y=>?_⟩
   &⟨e1,e2⟩:=y
   subst e1
   !⟨Same.refl _,by simp only [Dn]; !e2⟩
  ·rw [if_neg h] at e; cases e
 stop:=fun S H hg i hi=>by rw [List.length_map,uT] at hi; !Nat.le_of_eq hi
def aCa (t:WA):WI:=fun ρ Q=>t ρ fun ds=>match ds with
 | [.int j]=>(-(2 ^ 62)<=j/\j<2 ^ 62)/\Q ((t8 0 j.toNat).map D.int)
 | _=>False
def ZR (t:WA):WI:=fun ρ Q=>t ρ fun ds=>match ds with
 | [.int i,.int j]=>(-(2 ^ 62)<=i/\i<2 ^ 62 /\ -(2 ^ 62)<=j/\j<2 ^ 62)/\Q ((t8 i (j - i).toNat).map D.int)
 | _=>False
##aCb {a:Expr} {t:WA} {p pos:Pos} (hm:X.mg "range" = none) (ha:zJ X [a] t) (hg:Gl X "range" := by rfl) (hs:starEach [a] X.env=[(false,eval a X.env)]:=by rfl):UY X tg (.Call (.Name "range" p) [a] [] pos) (aCa t) :=
 OU (OA hg hm ha hs) fun σ H R aKO=>by
  &⟨S,ρ,Q3,fc,sl,ht,k⟩:=aKO
  @⟨S,ρ,_,fc,sl,ht,fun vs H1 ds s1 d1 q1=>?_⟩
  split at q1
  ·rename_i j
   &⟨v,r,rfl,h1,h2⟩:=d1.bV
   simp only [bC] at h2
   subst h2
   simp only [Dn] at h1
   subst h1
   !⟨j,rfl,q1.1.1,q1.1.2,k _ H1 _ [] s1 (fun g hg=>nomatch hg) BV q1.2⟩
  ·!q1.elim
##ZS {a b:Expr} {t:WA} {p pos:Pos} (hm:X.mg "range" = none) (ha:zJ X [a,b] t) (hg:Gl X "range" := by rfl) (hs:starEach [a,b] X.env=[(false,eval a X.env),(false,eval b X.env)]:=by rfl) (hs2:starEach [b] X.env=[(false,eval b X.env)]:=by rfl):UY X tg (.Call (.Name "range" p) [a,b] [] pos) (ZR t) :=
 OU (OB hg hm ha hs hs2) fun σ H R aKP=>by
  &⟨S,ρ,Q3,fc,sl,ht,k⟩:=aKP
  @⟨S,ρ,_,fc,sl,ht,fun vs H1 ds s1 d1 q1=>?_⟩
  split at q1
  ·rename_i i j
   &⟨v,r,rfl,h1,h2⟩:=d1.bV
   &⟨v2,r2,rfl,h3,h4⟩:=h2.bV
   simp only [bC] at h4
   subst h4
   simp only [Dn] at h1 h3
   subst h1 h3
   !⟨i,j,rfl,q1.1,k _ H1 _ [] s1 (fun g hg=>nomatch hg) BV q1.2⟩
  ·!q1.elim
abbrev WG:=D->aP->(aP->Prop)->Prop
def aFK (K:PySem.W.Frag) (n:Nat) (g:WG):TG:=fun v σ H Q=>∃ (H₀:Hp) (S:Addr->Prop) (w:Nat->Addr) (ρ:aP) (G:List (D×V)) (d:D) (Q3:aP->Prop),σ.length=n/\ST K H₀ S w σ H ρ G/\Dn K (SO S w ρ) H d v/\g d ρ Q3 /\
 ∀ σ' H' ρ',σ'.length=n->ST K H₀ S w σ' H' ρ' G->Q3 ρ'->Q σ' H'
def ZT (X:Cx) (tg:Expr) (g:WG):Prop:=PG X tg (aFK X.K X.N.length g)
##OV {e:Expr} {t t':TG} (h:PG X e t) (f:∀ v σ H Q,t' v σ H Q->t v σ H Q):PG X e t':=fun pins s σ H v u Q I r q=>h pins s σ H v u Q I r (f v σ H Q q)
def gN (i:Nat):WG:=fun d ρ Q=>Q (ρ.set i (.ro d))
##aFL {i:Nat} {x:Str} {pos:Pos} (hN:X.N.Nodup) (hi:X.N[i]? = some x:=by rfl) (hx:Loc X.env.scope x:=by first | !.inl rfl | !.inr rfl) (hf:X.fn x=true\/X.env.scope.names.lookup x=some .local:=by first | !.inl rfl | !.inr rfl):ZT X (.Name x pos) (gN i) :=
 OV (pG hN hi hx hf) fun v σ H Q aKQ=>by &⟨H₀,S,w,ρ,G,d,Q3,hl,st,dn,hg,k⟩:=aKQ; !k _ H _ (by rw [List.length_set]; !hl) (st.nF (by rw [hl]; !iO hi) dn) hg
def g2 (i j:Nat):WG:=fun d ρ Q=>match d with
 | .tup [d1,d2]=>Q ((ρ.set i (.ro d1)).set j (.ro d2))
 | _=>False
##aFM {i j:Nat} {x y:Str} {k:Nat} {pos px py:Pos} (hc:X.calm=true) (hN:X.N.Nodup) (hi:X.N[i]? = some x:=by rfl) (hj:X.N[j]? = some y:=by rfl) (hx:Loc X.env.scope x:=by first | !.inl rfl | !.inr rfl) (hy:Loc X.env.scope y:=by first | !.inl rfl | !.inr rfl)
  (hf:X.fn x=true\/X.env.scope.names.lookup x=some .local:=by first | !.inl rfl | !.inr rfl) (hf2:X.fn y=true\/X.env.scope.names.lookup y=some .local:=by first | !.inl rfl | !.inr rfl)
  (hn:(assignEach [.Name x px,.Name y py] X.env).length=2:=by rfl) (hst:(assignEach [.Name x px,.Name y py] X.env).findIdx? (·.1)=none:=by rfl)
  (hs1:(assignEach [.Name x px,.Name y py] X.env).map (·.2)=assign (.Name x px) X.env::(assignEach [.Name y py] X.env).map (·.2):=by rfl) (hs2:(assignEach [.Name y py] X.env).map (·.2)=assign (.Name y py) X.env::(assignEach [] X.env).map (·.2):=by rfl) :
  ZT X (.Tuple [.Name x px,.Name y py] k pos) (g2 i j) :=
 OV (TQ (n:=2) hc (sE (pG hN hi hx hf) (sE (pG hN hj hy hf2) MA hs2) hs1) hn hst) fun v σ H Q aKR=>by
  &⟨H₀,S,w,ρ,G,d,Q3,hl,st,dn,hg,k⟩:=aKR
  ~g2 at hg
  split at hg
  ·rename_i d1 d2
   simp only [Dn] at dn
   &⟨a,xs,rfl,ha,da⟩:=dn
   &⟨v1,r1,rfl,h1,h2⟩:=da.bV
   &⟨v2,r2,rfl,h3,h4⟩:=h2.bV
   simp only [bC] at h4
   subst h4
   @⟨a,_,rfl,(gA.of ha),rfl,v1,[v2],rfl,v2,[],rfl,rfl,?_⟩
   have st1:=st.nF (i:=i) (by rw [hl]; !iO hi) h1
   have m:∀ a,SO S w ρ a->SO S w (ρ.set i (.ro d1)) a:=SO.mono fun n f hf=>by
    rcases get_set hf with ⟨_,z,_⟩ | ⟨_,z⟩
    ·cases z
    ·!⟨_,z⟩
   have st2:=st1.nF (i:=j) (d:=d2) (v:=v2) (by rw [List.length_set,hl]; !iO hj) (Dn.fits (.mono m) _ _ h3)
   !k _ H _ (by rw [List.length_set,List.length_set]; !hl) st2 hg
  ·!hg.elim
def aKS (ti:WI) (g:WG) (tb:WS):WS:=fun E ρ=>ti (kD ρ) fun ds=>∃ Inv:Nat->aP->Prop,Inv 0 ρ /\
 (∀ (i:Nat) (d:D) (ρ':aP),ds[i]? = some d->Inv i ρ'->g d ρ' fun ρ2=>tb { E with nx:=Inv (i+1),ct:=Inv (i+1),bk:=E.nx } ρ2) /\ ∀ ρ',Inv ds.length ρ'->E.nx ρ'
##aKT {iter:Expr} {body:List Stmt} {ti:WI} {g:WG} {tb:WS} {pos:Pos} (hc:X.calm=true) (hp:PassesOwn (model X.prog X.w) X.A X.env X.xe) (hi:UY X tg iter ti) (hg:ZT X tg g) (hb:vG X body tb)
  (hs:∀ x,foldedSetIterable iter X.env x=pure x:=by intro _; rfl):EM X (.For tg iter body [] pos) (aKS ti g tb):=j3 (aBu hp hc hi hg hb hs) fun B σ H aKU=>by
 &⟨H₀,S,w,ρ,G,E,hl,st,ht,ok⟩:=aKU
 @⟨_,kD ρ,_,st.UM,st.rd,ht,fun J H1 ds G1 s1 hg1 wk q1=>?_⟩
 &⟨Iv,h0,turn,fin⟩:=q1
 have stG:∀ {w σ H ρ},ST X.K H₀ S w σ H ρ (G1++G)->ST X.K H₀ S w σ H ρ G:=fun st=>st.ghost fun g hg=>st.gh g (List.mem_append_right _ hg)
 @⟨fun i m σ H=>m=ds.length - i/\i<=ds.length/\σ.length=X.N.length /\ ∃ w ρ,ST X.K H₀ S w σ H ρ (G1++G)/\Iv i ρ,
  ⟨_,rfl,Nat.zero_le _,hl,w,ρ,(st.same s1).ghost fun g hg=>(List.mem_append.mp hg).elim (fun z=>hg1 g z) fun z=>(st.same s1).gh g z,h0⟩,?_⟩
 rintro i m σ2 H2 ⟨rfl,hi2,hl2,w2,ρ2,st2,iv⟩
 by_cases hlt:i<ds.length
 ·@.inr ?_
  &⟨g1,g2⟩:=wk.go _ H2 st2.UM (fun g hg=>st2.gh g (List.mem_append_left _ hg)) i ds[i] (by simp [hlt])
  @⟨g1,fun σ' H'=>σ'.length=X.N.length /\ ∃ w ρ,ST X.K H₀ S w σ' H' ρ (G1++G)/\Iv (i+1) ρ,fun σ' H' ⟨hl',w',ρ',st',iv'⟩=>⟨ds.length - (i+1),by omega,rfl,hlt,hl',w',ρ',st',iv'⟩,fun x H' y=>?_⟩
  &⟨s3,dx⟩:=g2 x H' y
  @⟨H₀,S,w2,ρ2,G1++G,ds[i],_,hl2,st2.same s3,dx,turn i ds[i] ρ2 (by simp [hlt]) iv,fun σ4 H4 ρ4 hl4 st4 q4=>?_⟩
  !⟨H₀,S,w2,ρ4,G1++G,_,hl4,st4,q4,⟨fun w' σ' H' ρ' hl' st' q=>⟨hl',w',ρ',st',q⟩,fun v H' d s' d' q=>ok.rt v H' d s' d' q,fun w' σ' H' ρ' hl' st' q=>ok.nx w' σ' H' ρ' hl' (stG st') q,fun w' σ' H' ρ' hl' st' q=>⟨hl',w',ρ',st',q⟩,ok.ex⟩⟩
 ·have e:i=ds.length:=by omega
  subst e
  !.inl ⟨wk.stop _ H2 (fun g hg=>st2.gh g (List.mem_append_left _ hg)) _ rfl,ok.nx w2 σ2 H2 ρ2 hl2 (stG st2) (fin ρ2 iv)⟩
end
##JJ {scope:Scope} {env:Env} (h:∀ x∈scope.names,x.2=.free -> ∃ c,env.cells.lookup x.1=some c) :
  ∃ cl,closureFor scope env=pure cl/\(∀ x∈scope.names,x.2=.free->cl.lookup x.1=env.cells.lookup x.1) /\ ∀ x c,cl.lookup x=some c->env.cells.lookup x=some c:=by
 have go:∀ (l:List (Str×NameKind)) (acc:List (Str×Addr)),(∀ x∈l,x.2=.free -> ∃ c,env.cells.lookup x.1=some c)->(∀ x c,acc.lookup x=some c->env.cells.lookup x=some c) ->
   ∃ cl,(forIn l acc fun (x:Str×NameKind) (cs:List (Str×Addr))=>(match x with | (name,kind)=>if (kind == NameKind.free)=true then (do let c <- cellOf env name; pure (ForInStep.yield ((name,c)::cs))) else pure (ForInStep.yield cs):Sem (ForInStep (List (Str×Addr)))))=pure cl /\
    (∀ x c,acc.lookup x=some c->cl.lookup x=some c)/\(∀ x∈l,x.2=.free->cl.lookup x.1=env.cells.lookup x.1) /\ ∀ x c,cl.lookup x=some c->env.cells.lookup x=some c:=by
  intro l
  induction l with
  | nil=>intro acc _ ha; !⟨acc,by rw [List.forIn_nil],fun _ _ z=>z,fun x hx=>(nomatch hx),ha⟩
  | cons y l ih =>
   intro acc hf ha
   by_cases hk:y.2=.free
   ·&⟨c,hc⟩:=hf y List.mem_cons_self hk
    have ha':∀ x c',((y.1,c)::acc).lookup x=some c'->env.cells.lookup x=some c':=fun x c' hx=>by
     rw [List.lookup_cons] at hx
     split at hx
     ·rename_i e
      cases hx
      rw [eq_of_beq e]; !hc
     ·!ha x c' hx
    &⟨cl,e,h1,h2,h3⟩:=ih ((y.1,c)::acc) (fun x hx=>hf x (List.mem_cons_of_mem _ hx)) ha'
    @⟨cl,?_,fun x c' hx=>?_,fun x hx hfx=>?_,h3⟩
    ·rw [List.forIn_cons,<- e]
     have e1:(y.2 == NameKind.free)=true:=by rw [hk]; rfl
     have e2:cellOf env y.1=pure c:=by ~cellOf; rw [hc]
     &⟨yn,yk⟩:=y
     dsimp only at e1 e2 ⊢
     rw [if_pos e1,e2]
     rfl
    ·by_cases hxy:x=y.1
     ·subst hxy
      have e3:((y.1,c)::acc).lookup y.1=some c:=by simp
      have e4:=ha _ _ hx
      rw [hc] at e4
      cases e4
      !h1 _ _ e3
     ·@h1 x c' ?_
      rw [List.lookup_cons]
      have:(x == y.1)=false:=¥hxy
      rw [this]; !hx
    ·rcases List.mem_cons.mp hx with rfl | hx
     ·rw [hc]; !h1 _ _ (by simp)
     ·!h2 x hx hfx
   ·&⟨cl,e,h1,h2,h3⟩:=ih acc (fun x hx=>hf x (List.mem_cons_of_mem _ hx)) ha
    @⟨cl,?_,h1,fun x hx hfx=>?_,h3⟩
    ·rw [List.forIn_cons,<- e]
     have e1:¬ (y.2 == NameKind.free)=true:=¥hk
     &⟨yn,yk⟩:=y
     dsimp only at e1 ⊢
     rw [if_neg e1]
     rfl
    ·rcases List.mem_cons.mp hx with rfl | hx
     ·!absurd hfx hk
     ·!h2 x hx hfx
 &⟨cl,e,_,h2,h3⟩:=go scope.names [] h (fun x c z=>by simp at z)
 @⟨cl,?_,h2,h3⟩
 have e':=congrArg (fun t=>t >>= fun r=>(pure r:Sem (List (Str×Addr)))) e
 !e'
##i7:∀ (l:List (Str×NameKind)) (n:Nat) (own cl:List (Str×Addr)),cellsFrom n l (own++cl)=cellsFrom n l own++cl
 | [],_,_,_=>rfl
 | (x,k)::r,n,own,cl=>by
  ~cellsFrom
  split
  ·!i7 r (n+1) ((x,n)::own) cl
  ·!i7 r n own cl
##kP:∀ (l:List (Str×NameKind)) (n:Nat) (own:List (Str×Addr)) (p:Str×Addr),p∈cellsFrom n l own->p∈own\/(p.1,NameKind.cell)∈l
 | [],_,_,_,h=>.inl h
 | (x,k)::r,n,own,p,h=>by
  ~cellsFrom at h
  split at h
  ·rename_i hk
   rcases kP r _ _ p h with h | h
   ·rcases List.mem_cons.1 h with rfl | h
    ·!.inr (by rw [<- eq_of_beq hk]; !List.mem_cons_self)
    ·!.inl h
   ·!.inr (List.mem_cons_of_mem _ h)
  ·rcases kP r _ _ p h with h | h
   ·!.inl h
   ·!.inr (List.mem_cons_of_mem _ h)
##lR:∀ (l:List (Str×NameKind)) (n:Nat) (own:List (Str×Addr)) (x:Str),((∃ c,own.lookup x=some c)\/(x,NameKind.cell)∈l) -> ∃ c,(cellsFrom n l own).lookup x=some c
 | [],_,_,_,h=>h.elim id fun z=>(nomatch z)
 | (y,k)::r,n,own,x,h=>by
  ~cellsFrom
  split
  ·@lR r _ _ x ?_
   by_cases e:x=y
   ·!.inl ⟨n,by rw [e,List.lookup_cons,beq_self_eq_true]⟩
   ·rcases h with ⟨c,h⟩ | h
    ·!.inl ⟨c,by rw [List.lookup_cons,beq_eq_false_iff_ne.mpr e]; !h⟩
    ·rcases List.mem_cons.mp h with z | z
     ·!absurd (Prod.mk.inj z).1 e
     ·!.inr z
  ·rename_i hk
   @lR r _ _ x (h.imp_right fun z=>?_)
   rcases List.mem_cons.mp z with z | z
   ·rw [<- (Prod.mk.inj z).2] at hk; !absurd rfl hk
   ·!z
##OW {M:Model} {A:Around} {E:Value->Shared->Prop} {s:Shared} {sc:Scope} {g:Addr} {cl:List (Str×Addr)} {q:Str} {f:Option Addr} {code:Value} {env:Env} {bl:Addr} {Q:Env->Shared->Prop}
  (h:∀ h4:Heap,h4.Ns s.heap.objs.size (fun _=>none)->(∀ b o,s.heap.get? b=some o->h4.get? b=some o)->CellsOk h4 (s.heap.objs.size+1) (cellsFrom (s.heap.objs.size+1) sc.names []) ->
   Q (newEnv sc s.heap.objs.size g (cellsFrom (s.heap.objs.size+1) sc.names cl) q f code (some env) bl) { s with heap:=h4 }) :
  wpAny M A (newFunctionEnv sc g cl [] q f code (some env) bl) Q E s:=by
 ~newFunctionEnv
 @wpAny_bind (wpAny_alloc (wpAny_bind (wpAny_layCells _ (fun x k c=>by cases e:k == NameKind.cell<;>simp [e]) _ _ _ _ ?_)))
 have hz:∀ o:Obj,(s.heap.push o).objs.size=s.heap.objs.size+1:=fun o=>Heap.size_push ..
 have ok:=fun o=>cellsFrom_ok sc.names (s.heap.push o) (s.heap.objs.size+1) [] ⟨fun _ _ z=>(nomatch z),.nil⟩ (by rw [hz]; !Nat.le_refl _)
 simp only [hz] at ok ⊢
 rw [List.forIn_nil]
 !wpAny_bind (wpAny_pure (wpAny_pure (h _ ((Heap.Ns.new s.heap _).keeps (pushCells_keeps _ _)) (fun b o e=>pushCells_keeps _ _ b o (Heap.get?_push_of_some _ e)) (ok _))))
def blk (X:Cx) (N:List Str) (sc:Scope) (cl:List (Str×Addr)) (C:Addr) (pn:List (Addr×Obj)) (ex:List Addr) (s₀:Shared) (H₀:Hp):Cx :=
 { X with N:=N,s₀:=s₀,H₀:=H₀,env:=compEnvC sc cl C X.env,outer:=X.stack,stack:=X.stack,ex:=ex,fn:=fun x=>sc.names.lookup x == some NameKind.cell,pn:=pn,xe:=fun _ _=>False }
def GD (nl:Nat) (fr:List Nat) (σ:L2.St):L2.St:=List.replicate nl none++fr.map fun j=>(σ[j]?).join
structure GF (X:Cx) (ls fs:List Str) (fr:List Nat) (sc:Scope):Prop where
 kind:sc.kind=.function
 nd:(ls++fs).Nodup
 uniq:∀ x∈sc.names,sc.names.lookup x.1=some x.2
 free:∀ x∈sc.names,x.2=.free->X.env.kindOf x.1=some .cell\/X.env.kindOf x.1=some .free
 slot:∀ (k:Nat) (x:Str),fs[k]? = some x -> ∃ j,fr[k]? = some j/\X.N[j]? = some x/\(x,NameKind.free)∈sc.names/\sc.names.lookup x=some .free
 GA:fr.length=fs.length
section
variable {X:Cx}
##uU (t:Str->NameKind->NameKind) (x:Str):∀ l:List (Str×NameKind),(l.map fun p=>(p.1,t p.1 p.2)).lookup x=(l.lookup x).map (t x)
 | []=>rfl
 | (n,k)::r=>by
  rw [List.map_cons,List.lookup_cons,List.lookup_cons]
  by_cases hx:(x == n)=true
  ·rw [hx,eq_of_beq hx]; rfl
  ·rw [Bool.not_eq_true] at hx
   rw [hx]
   !uU t x r
##xU {sc:Scope} {env:Env} {x:Str} {l:List (Str×NameKind)}:(l.map fun (n,k)=>if (k == NameKind.free&&env.scope.kind == .function&&env.kindOf n == some .cell) then (n,NameKind.cell) else (n,k)).lookup x =
  (l.lookup x).map fun k=>if (k == NameKind.free&&env.scope.kind == .function&&env.kindOf x == some .cell) then NameKind.cell else k:=by
 rw [<- uU (fun y k=>if (k == NameKind.free&&env.scope.kind == .function&&env.kindOf y == some .cell) then NameKind.cell else k) x l]
 @congrArg (List.lookup x) (List.map_congr_left fun p _=>?_)
 dsimp only
 split<;>rfl
##ne_size {b c:Addr} {h:Heap} {o:Obj} (e:h.get? b=some o) (hc:c=h.objs.size):b≠c:=fun z=>Nat.lt_irrefl _ (by have q:=Heap.lt_size e; rw [z,hc] at q; !q)
##GG {b c:Addr} {n:Nat} (h:b<n) (hc:n<=c):b≠c:=fun z=>Nat.lt_irrefl c (Nat.lt_of_lt_of_le (z▸h) hc)
##ZU {ls fs:List Str} {fr:List Nat} {sc:Scope} {cl:List (Str×Addr)} {C:Addr} {pins:List (Addr×Obj)} {ex:List Addr} {σ:L2.St} {H:Hp} {s s4:Shared} (B:GF X ls fs fr sc) (I:Inv X pins σ H s)
  (hcl:∀ x∈sc.names,x.2=.free->cl.lookup x.1=X.env.cells.lookup x.1) (D2:∀ x c,cl.lookup x=some c->X.env.cells.lookup x=some c\/(C<c/\s4.heap.IsCell c none)) (aFN:∀ x∈sc.names,x.2=.cell -> ∃ c,cl.lookup x.1=some c/\C<c)
  (hinj:∀ x y c,cl.lookup x=some c->cl.lookup y=some c->x=y) (hex:∀ b∈ex,qQ X pins H b/\b<s.heap.objs.size)
  (hC:C=s.heap.objs.size) {m:Str->Option Value} (hn:s4.heap.Ns C m) (hk:∀ b o,s.heap.get? b=some o->s4.heap.get? b=some o) (ho:s4.os=s.os) (hg:s4.gens=s.gens) :
  Inv (blk X (ls++fs) sc cl C (X.pn++pins) ex s H) [] (GD ls.length fr σ) H s4:=by
 have ltC:∀ {b:Addr} {o:Obj},s.heap.get? b=some o->b≠C:=fun e=>ne_size e hC
 have aPa:∀ x c,cl.lookup x=some c->c≠C:=fun x c e=>by
  rcases D2 x c e with e | ⟨e,_⟩
  ·&⟨v,o,ho,_⟩:=I.cell x c e
   !ltC ho
  ·!Nat.ne_of_gt e
 have kOf:∀ x,(compEnvC sc cl C X.env).kindOf x=(sc.names.lookup x).map fun k=>if (k == NameKind.free&&X.env.scope.kind == .function&&X.env.kindOf x == some .cell) then NameKind.cell else k:=fun x=>xU (sc:=sc)
 have okX:(blk X (ls++fs) sc cl C (X.pn++pins) ex s H).Ok:=by
  @⟨I.ok.mod,B.kind,I.ok.glob,I.ok.blt,(by show s.heap.objs.size<=C; rw [hC]; !Nat.le_refl _),hinj,fun x hx=>?_,fun x c hf hl=>?_,I.ok.hd,I.ok.frames,.inl rfl,fun b hb=>?_,fun b o e=>I.bs b o e,Nat.le_trans I.ok.YM I.sz,fun b o e hb=>?_,fun b hb=>?_,I.stack,I.DJ⟩
  ·-- a cell or free name of the block
   have hx':∃ k,sc.names.lookup x=some k/\((if (k == NameKind.free&&X.env.scope.kind == .function&&X.env.kindOf x == some .cell) then NameKind.cell else k)=.cell\/(if (k == NameKind.free&&X.env.scope.kind == .function&&X.env.kindOf x == some .cell) then NameKind.cell else k)=.free):=by
    have hx:(compEnvC sc cl C X.env).kindOf x=some .cell\/(compEnvC sc cl C X.env).kindOf x=some .free:=hx
    rw [kOf] at hx
    cases e:sc.names.lookup x with
    | none=>rw [e] at hx; rcases hx with hx | hx<;>cases hx
    | some k=>rw [e] at hx; !⟨k,rfl,hx.imp (fun z=>Option.some.inj z) fun z=>Option.some.inj z⟩
   &⟨k,e,hk'⟩:=hx'
   have hm:=PySem.mem_of_lookup e
   by_cases kf:k=.free
   ·subst kf
    have q:=hcl _ hm rfl
    &⟨c,hc⟩:=I.ok.has x (B.free _ hm rfl)
    !⟨c,q.trans hc⟩
   ·have e2:(k == NameKind.free)=false:=¥kf
    rw [e2] at hk'
    simp only [Bool.false_and,Bool.false_eq_true,if_false] at hk'
    rcases hk' with z | z
    ·&⟨c,hc,_⟩:=aFN _ hm z
     !⟨c,hc⟩
    ·!absurd z kf
  ·-- an own cell is new
   &⟨c',hc',hlt⟩:=aFN _ (PySem.mem_of_lookup (eq_of_beq hf)) rfl
   have hc':cl.lookup x=some c':=hc'
   have hl:cl.lookup x=some c:=hl
   rw [hl] at hc'
   cases hc'
   rw [hC] at hlt
   !Nat.le_of_lt hlt
  ·@⟨GG (hex b hb).2 (Nat.le_of_eq hC.symm),fun x c e=>?_⟩
   rcases D2 x c e with e | ⟨e,_⟩
   ·!(hex b hb).1.2.2.2.2.1 x c e
   ·!Ne.symm (GG (hex b hb).2 (by rw [<- hC]; !Nat.le_of_lt e))
  ·&⟨⟨_,_,_,f3,_,_⟩,_⟩:=hex b hb
   rcases f3 with f3 | f3
   ·!I.ok.TD b o e f3
   ·!absurd (Nat.lt_of_lt_of_le (Heap.lt_size e) (Nat.le_trans I.ok.YM f3)) (Nat.lt_irrefl _)
  ·intro z
   &⟨⟨_,f1,f2,_,_,_⟩,_⟩:=hex b hb
   rcases List.mem_cons.mp (I.qO b z) with z | z
   ·!f1 z
   ·!f2 z
 @⟨okX,ho,by rw [hg]; !I.bare,Un.kept hk,⟨m,hn,fun i x v h1 h2 h3=>?_⟩,fun x c e=>?_,?_,fun x c e=>?_,fun p hp=>?_,I.hok.kept hk,?_⟩
 ·-- a name with a value is one from around
  have hi:¬ i<ls.length:=fun hi=>by
   ~GD at h2
   rw [List.getElem?_append_left (¥hi),List.getElem?_replicate,if_pos hi] at h2
   cases h2
  have e1:fs[i - ls.length]? = some x:=by
   have h1:(ls++fs)[i]? = some x:=h1
   rw [List.getElem?_append_right °] at h1
   !h1
  &⟨j,ej,eN,hm,hlk⟩:=B.slot _ _ e1
  have e2:(σ[j]?).join=some v:=by
   ~GD at h2
   rw [List.getElem?_append_right (¥hi),List.getElem?_map,List.length_replicate,ej] at h2
   !Option.some.inj h2
  have e3:σ[j]? = some (some v):=by
   cases q:σ[j]? with
   | none=>rw [q] at e2; cases e2
   | some o=>rw [q] at e2; rw [show o=some v from e2]
  have hfr:=B.free _ hm rfl
  have vis:EL X.env.scope x:=.inr hfr
  &⟨mm,hnm,hl⟩:=I.loc
  &⟨u,r,l⟩:=hl j x v eN e3 vis
  @⟨u,r,?_⟩
  rcases l with ⟨k1,_⟩ | ⟨k1,c,ec,zc⟩
  ·have k1:X.env.kindOf x=some .local:=k1
   rcases hfr with z | z<;>rw [k1] at z<;>cases z
  ·@.inr ⟨?_,c,(hcl _ hm rfl).trans ec,?_⟩
   ·show (compEnvC sc cl C X.env).kindOf x=some .cell\/(compEnvC sc cl C X.env).kindOf x=some .free
    rw [kOf,hlk]
    dsimp only [Option.map]
    split
    ·!.inl rfl
    ·!.inr rfl
   ·&⟨oc,hoc,hd⟩:=zc
    !⟨oc,hk _ _ hoc,hd⟩
 ·rcases D2 x c e with e | ⟨_,e⟩
  ·&⟨v,oc,hoc,hd⟩:=I.cell x c e
   !⟨v,oc,hk _ _ hoc,hd⟩
  ·!⟨none,e⟩
 ·show H C=none
  rw [hC]; !I.hok.fresh (Nat.le_refl _)
 ·rcases D2 x c e with e | ⟨e,_⟩
  ·!I.mI x c e
  ·!I.hok.fresh (by rw [<- hC]; !Nat.le_of_lt e)
 ·have hp:p∈(X.pn++pins)++[]:=hp
  rw [List.append_nil] at hp
  &⟨e,n,ne,nf,d⟩:=I.pin p hp
  @⟨hk _ _ e,n,ltC e,fun z=>?_,d⟩
  rcases List.mem_cons.mp (I.qO _ z) with z | z
  ·!ne z
  ·!nf z
 ·show (GD ls.length fr σ).length=(ls++fs).length
  ~GD
  rw [List.length_append,List.length_append,List.length_replicate,List.length_map,B.GA]
##U1 {ls fs:List Str} {sc:Scope} {cl:List (Str×Addr)} {C:Addr} {pins LZ:List (Addr×Obj)} {ex:List Addr} {σ σ':L2.St} {H H':Hp} {s s':Shared} {h':Heap} (I:Inv X pins σ H s)
  (J:Inv (blk X (ls++fs) sc cl C (X.pn++pins) ex s H) LZ σ' H' s') (hex:∀ b∈ex,qQ X pins H b) (hC:C=s.heap.objs.size) (hs:Heap.SameBut C s'.heap h'):Inv X pins σ H' { s' with heap:=h' }:=by
 have ltC:∀ {b:Addr} {o:Obj},s.heap.get? b=some o->b≠C:=fun e=>ne_size e hC
 have fr:H' C=none:=J.free
 have un:Un (frs X.stack) ex H H' s.heap s'.heap:=J.base
 @I.call' (s':={ s' with heap:=h' }) (ch:=ex) J.os ⟨fun b o e n hb hx=>(hs.2 b (ltC e)).trans (un.keep b o e n hb hx),fun b o e n hb hx=>?_,un.free,fun b o e hx=>?_,un.tups,un.sB,un.t4⟩ ?_ J.bare fun b hb=>?_
 ·&⟨sl,q⟩:=un.slot b o e n hb hx
  !⟨sl,(hs.2 b (ltC e)).trans q⟩
 ·&⟨o',q⟩:=un.there b o e hx
  !⟨o',(hs.2 b (ltC e)).trans q⟩
 ·intro b ob e
  @(J.hok b ob e).stay (fun c u hc q=>(hs.2 c ?_).trans q) (fun _ q=>q) fun _ _ q=>q
  intro z
  rcases hc with hc | hc
  ·rw [z] at hc; rw [<- hc,fr] at e; cases e
  ·rw [z,fr] at hc; cases hc
 ·&⟨_,f1,_,f3,f4,f5⟩:=hex b hb
  !⟨f3,f1,f4,f5⟩
abbrev aCc (ifs:List Expr) (env:Env):Sem Bool:=forIn ifs true fun c r=>if r=true then (do let b <- isTrue c env (eval c env); pure (ForInStep.yield b)) else pure (ForInStep.yield r)
abbrev Calm (prog:Program) (w:World) (A:Around) {α:Type} (t:Sem α) (Q:α->Shared->Prop) (s:Shared):Prop:=wpAny (model prog w) A t Q (fun _ _=>False) s
##oK {prog:Program} {w:World} {A:Around} {R:Result->Shared->Prop} {s:Shared} {el tg src:Expr} {ifs:List Expr} {bs:Scope} {at_:Pos} {it acc:Value} {env:Env} (Iv:Nat->Shared->Prop)
  (turn:∀ n s,Iv n s->Calm prog w A (pyNext it) (fun got s1=>match got with
   | none=>R (.ok .next) s1
   | some v=>Calm prog w A (letOwnedTupleGo tg it v) (fun _ s2=>Calm prog w A (assign tg env v) (fun _ s3=>Calm prog w A (aCc ifs env) (fun ok s4 =>
     if ok=true then Calm prog w A (eval el env) (fun x s5=>Calm prog w A (call (.builtin "list.append") [acc,x]) (fun _ s6=>∃ m,m<n/\Iv m s6) s5) s4 else ∃ m,m<n/\Iv m s4) s3) s2) s1) s)
  (n:Nat) (h:Iv n s):codeAny (model prog w) A (.compLoop (.ListComp el [⟨tg,src,ifs,0⟩] bs at_) 0 it acc env) R s:=by
 have no:∀ {α:Type} {E:Value->Shared->Prop} {t:Sem α} {Q Q':α->Shared->Prop} {s:Shared},Calm prog w A t Q s->(∀ a s,Q a s->Q' a s)->wpAny (model prog w) A t Q' E s:=fun h f=>wpAny_mono h f fun _ _ z=>z.elim
 @codeAny_loop rfl Iv (fun n s hI=>?_) n h
 @wpAny_noted (m:=compTurn (.ListComp el [⟨tg,src,ifs,0⟩] bs at_) 0 it acc env) ?_
 rw [compTurn_list]
 @wpAny_bind (wpAny_standAt (wpAny_bind (no (turn n s hI) fun got s1 h1=>?_)))
 match got,h1 with
 | none,h1=>!wpAny_pure h1
 | some v,h1 =>
  @wpAny_bind (no h1 fun _ _ h2=>wpAny_bind (no h2 fun _ _ h3=>wpAny_bind (no h3 fun ok s4 h4=>?_)))
  match ok,h4 with
  | false,h4=>!wpAny_pure (And.intro rfl h4)
  | true,h4=>!wpAny_bind (wpAny_bind (no h4 fun _ _ h5=>wpAny_bind (no h5 fun _ _ h6=>wpAny_pure (wpAny_pure (And.intro rfl h6)))))
abbrev TFk:=L2.St->Hp->(Bool->Hp->Prop)->Prop
def PIf (X:Cx) (ifs:List Expr) (t:TFk):Prop :=
 ∀ (pins:List (Addr×Obj)) (s:Shared) (σ:L2.St) (H:Hp) (Q:Bool->Hp->Prop),Inv X pins σ H s->t σ H Q ->
  wpAny (model X.prog X.w) X.A (forIn ifs true fun c r=>if r=true then do let ok <- isTrue c X.env (eval c X.env); pure (ForInStep.yield ok) else pure (ForInStep.yield r)) (TP X pins σ Q) X.xe s
##ZV:PIf X [] (fun _ H Q=>Q true H):=fun pins s σ H Q I h=>by
 rw [List.forIn_nil]
 !wpAny_pure ⟨H,I,h⟩
##aCd {c:Expr} {t:TT} (h:PT X c t):PIf X [c] t:=fun pins s σ H Q I hw=>by
 rw [List.forIn_cons]
 @wpAny_bind ?_
 rw [if_pos rfl]
 @wpAny_bind (dN (h pins s σ H Q I hw) fun b s1 q=>wpAny_pure ?_)
 dsimp only
 rw [List.forIn_nil]
 !wpAny_pure q
def MR (nl:Nat) (fr:List Nat) (wi:TI) (g:TG) (tf:TFk) (te:TE):TE:=fun σ H Q=>wi σ H fun J H1=>∀ acc,H1 acc=none -> ∃ W:Nat->Nat->Hp->List V->Prop,(∃ m,W 0 m (upd H1 acc (.lst [])) []) /\
 ∀ i m H ys,W i m H ys->H acc=some (.lst ys)/\((J.stop i H/\Q (.ref acc) H)\/(J.go i H /\ ∀ x H',J.yld i H x H'->g x (GD nl fr σ) H' fun σ2 H2=>(σ2.drop nl=fr.map fun j=>(σ[j]?).join)/\tf σ2 H2 fun b H3 =>
  if b=true then te σ2 H3 fun y H4=>H4 acc=some (.lst ys)/\ys.length<sizeLine /\ ∃ m',m'<m/\W (i+1) m' (upd H4 acc (.lst (ys++[y]))) (ys++[y]) else ∃ m',m'<m/\W (i+1) m' H3 ys))
##GH {ls fs:List Str} {fr:List Nat} {sc:Scope} {tg iter elt:Expr} {ifs:List Expr} {pos p2:Pos} {wi:TI} {g:TG} {tf:TFk} {te:TE} {pins:List (Addr×Obj)} {σ:L2.St} {H:Hp} {s:Shared} {Qe:VK} {use:Option (Value->Sem Unit)} {Qv:Value->Shared->Prop}
  (hc:X.calm=true) (B:GF X ls fs fr sc) (hi:PI X tg iter wi) (hg:∀ cl C pn ex s H,PG (blk X (ls++fs) sc cl C pn ex s H) tg g) (hf:∀ cl C pn ex s H,PIf (blk X (ls++fs) sc cl C pn ex s H) ifs tf) (he:∀ cl C pn ex s H,PE (blk X (ls++fs) sc cl C pn ex s H) elt te)
  (hs:∀ x,foldedSetIterable iter X.env x=pure x) (I:Inv X pins σ H s) (h:MR ls.length fr wi g tf te σ H Qe)
  (fin:∀ acc C s' H',Inv X pins σ H' s'->(∃ m,s'.heap.Ns C m)->qQ X pins H' C->Qe (.ref acc) H'->compPost (model X.prog X.w) X.A X.xe use Qv (.ref acc) C (.ok .next) s') :
  wpAny (model X.prog X.w) X.A (comprehension (.ListComp elt [⟨tg,iter,ifs,0⟩] sc pos) sc X.env p2 (newList []) false (eval iter X.env) use) Qv X.xe s:=by
 &⟨cl,ecl,hcl,D2⟩:=JJ (scope:=sc) (env:=X.env) fun x hx hf=>I.ok.has x.1 (B.free x hx hf)
 @wpAny_comprehension_free (g:=⟨tg,iter,ifs,0⟩) (gs:=[]) rfl hs ecl B.kind (fun x hx e=>(B.uniq x hx).trans (congrArg some e)) ?_
 @dN (hi pins s σ H _ I h) fun v s1 h1=>dN h1 fun itv s2 h2=>?_
 &⟨it,fp,tn,J,H2,e,I2,T,st2,f2,h2⟩:=h2
 subst e
 @wpAny_newObj_type ?_ (by show ([]:List Value).toArray.size<=sizeLine; simp)
 have hacc:H2 s2.heap.objs.size=none:=I2.hok.fresh (Nat.le_refl _)
 have I3:Inv X pins σ (upd H2 s2.heap.objs.size (.lst [])) { s2 with heap:=s2.heap.push { cls:=.type "list",data:=.seq ([]:List Value).toArray } } :=
  I2.laid (t':=s2.toks) (fun b o e=>Heap.get?_push_of_some _ e) (Nat.le_refl _) ⟨by simp,[],0,.nil,Heap.get?_push_size _ rfl⟩
 have hfp:∀ b∈fp,b<s2.heap.objs.size:=fun b hb=>by &⟨o,e,_⟩:=T.obj _ _ st2 b hb; !Heap.lt_size e
 &⟨W,⟨m0,w0⟩,turn⟩:=h2 _ hacc
 generalize GI:s2.heap.objs.size=acc at hacc I3 w0 turn ⊢
 have aKW:∀ b∈fp,b≠acc:=fun b hb=>GG (hfp b hb) (Nat.le_of_eq GI)
 have f3:∀ b∈fp,qQ X pins (upd H2 acc (.lst [])) b:=fun b hb=>⟨by rw [bQ (aKW b hb)]; !(f2 b hb).1,(f2 b hb).2⟩
 generalize hs3:({ s2 with heap:=s2.heap.push { cls:=.type "list",data:=.seq ([]:List Value).toArray } }:Shared)=s3 at I3
 have hsz3:s3.heap.objs.size=acc+1:=by rw [<- hs3]; show (s2.heap.push _).objs.size=_; rw [Heap.size_push,GI]
 have st3:tn 0 s3.heap:=T.keep _ _ _ st2 fun b hb o e=>by rw [<- hs3]; !Heap.get?_push_of_some _ e
 @OW fun h4 hn4 hk4 co=>?_
 generalize hC:s3.heap.objs.size=C at hn4 co ⊢
 have eC:cellsFrom (C+1) sc.names cl=cellsFrom (C+1) sc.names []++cl:=i7 sc.names (C+1) [] cl
 generalize hcs:cellsFrom (C+1) sc.names []=cs at co eC
 have own:∀ x c,cs.lookup x=some c->(x,NameKind.cell)∈sc.names/\C<c/\h4.IsCell c none:=fun x c e=>by
  have m:=PySem.mem_of_lookup e
  @⟨?_,(co.empty x c m).2,(co.empty x c m).1⟩
  rw [<- hcs] at m
  rcases kP _ _ _ _ m with z | z
  ·cases z
  ·!z
 generalize hdl:cellsFrom (C+1) sc.names cl=dl at eC ⊢
 have two:∀ x c,dl.lookup x=some c->cs.lookup x=some c\/(cs.lookup x=none/\cl.lookup x=some c):=fun x c e=>by
  rw [eC,List.lookup_append] at e
  cases q:cs.lookup x with
  | none=>rw [q] at e; !.inr ⟨rfl,e⟩
  | some d=>rw [q] at e; !.inl e
 have aKX:∀ x∈sc.names,x.2=.free->dl.lookup x.1=X.env.cells.lookup x.1:=fun x hx e=>by
  rw [<- hcl x hx e,eC,List.lookup_append]
  cases q:cs.lookup x.1 with
  | none=>rfl
  | some d =>
   have z:=B.uniq _ (own _ _ q).1
   rw [B.uniq x hx,e] at z
   cases z
 have aFP:∀ x c,dl.lookup x=some c->X.env.cells.lookup x=some c\/(C<c/\h4.IsCell c none):=fun x c e=>by
  rcases two x c e with e | ⟨_,e⟩
  ·!.inr (own x c e).2
  ·!.inl (D2 x c e)
 have aKY:∀ x∈sc.names,x.2=.cell -> ∃ c,dl.lookup x.1=some c/\C<c:=fun x hx e=>by
  &⟨c,hc⟩:=lR sc.names (C+1) [] x.1 (.inr (by rw [<- e]; !hx))
  rw [hcs] at hc
  !⟨c,by rw [eC,List.lookup_append,hc]; rfl,(own _ _ hc).2.1⟩
 have low:∀ x c,cl.lookup x=some c->c<C:=fun x c e=>by
  &⟨v,o,ho,_⟩:=I3.cell x c (D2 x c e)
  rw [<- hC]; !Heap.lt_size ho
 have aKZ:∀ x y c,dl.lookup x=some c->dl.lookup y=some c->x=y:=fun x y c e e'=>by
  rcases two x c e with e | ⟨_,e⟩<;>rcases two y c e' with e' | ⟨_,e'⟩
  ·!name_of_addr co.apart (PySem.mem_of_lookup e) (PySem.mem_of_lookup e')
  ·!absurd (own _ _ e).2.1 (Nat.lt_asymm (low _ _ e'))
  ·!absurd (own _ _ e').2.1 (Nat.lt_asymm (low _ _ e))
  ·!I3.ok.inj x y c (D2 x c e) (D2 y c e')
 have I4:Inv (blk X (ls++fs) sc dl C (X.pn++pins) fp s3 (upd H2 acc (.lst []))) [] (GD ls.length fr σ) (upd H2 acc (.lst [])) { s3 with heap:=h4 } :=
  ZU B I3 aKX aFP aKY aKZ (fun b hb=>⟨f3 b hb,by rw [hsz3,<- GI]; !Nat.lt_succ_of_lt (hfp b hb)⟩) hC.symm hn4 hk4 rfl rfl
 generalize hX:blk X (ls++fs) sc dl C (X.pn++pins) fp s3 (upd H2 acc (.lst []))=Y at I4
 have pY:Y.prog=X.prog:=by rw [<- hX]; rfl
 have wY:Y.w=X.w:=by rw [<- hX]; rfl
 have kY:Y.K=X.K:=by rw [<- hX]; rfl
 have AY:Y.A=X.A:=by rw [<- hX]; rfl
 have cY:Y.calm=true:=by rw [<- hX]; !hc
 have eY:Y.env=compEnvC sc dl C X.env:=by rw [<- hX]; rfl
 have xY:Y.xe=fun _ _=>False:=by rw [<- hX]; rfl
 have U2:∀ {H':Hp},(∀ b∈fp,H' b=none) -> ∀ b∈fp,qQ Y [] H' b:=fun hn b hb=>by
  rw [<- hX]
  &⟨_,f1,f2',_,f4,f5⟩:=f3 b hb
  @⟨hn b hb,fun z=>?_,fun z=>?_,.inl hb,fun x c e=>?_,fun p hp=>f5 p ?_⟩
  ·!absurd z (GG (hfp b hb) (by rw [<- hC,hsz3,GI]; !Nat.le_succ _))
  ·rcases List.mem_cons.mp (I3.qO b z) with z | z
   ·!f1 z
   ·!f2' z
  ·rcases aFP x c e with e | ⟨e,_⟩
   ·!f4 x c e
   ·!Ne.symm (GG (hfp b hb) (by rw [GI]; !Nat.le_of_lt (Nat.lt_trans (by rw [<- hC,hsz3]; !Nat.lt_succ_self _) e)))
  ·have hp:p∈(X.pn++pins)++[]:=hp
   rw [List.append_nil] at hp; !hp
 have st4:tn 0 h4:=T.keep _ _ _ st3 fun b hb o e=>hk4 b o e
 have loop:∀ s5:Shared,(∃ i H',Inv Y [] (GD ls.length fr σ) H' s5/\tn i s5.heap/\(∀ b∈fp,H' b=none) /\ ∃ m ys,W i m H' ys)->codeAny (model X.prog X.w) X.A (.compLoop (.ListComp elt [⟨tg,iter,ifs,0⟩] sc pos) 0 (.ref it) (.ref acc) (compEnvC sc dl C X.env)) (compPost (model X.prog X.w) X.A X.xe use Qv (.ref acc) C) s5:=by
  rintro s5 ⟨i,H',I5,st5,fr5,m,ys,w5⟩
  @oK (fun n s'=>∃ i H' ys,Inv Y [] (GD ls.length fr σ) H' s'/\tn i s'.heap/\(∀ b∈fp,H' b=none)/\W i n H' ys) ?_ m ⟨i,H',ys,I5,st5,fr5,w5⟩
  rintro n s6 ⟨i,H6,ys,I6,st6,fr6,w6⟩
  &⟨ha6,alt⟩:=turn i n H6 ys w6
  rcases alt with ⟨stop,qn⟩ | ⟨go,step⟩
  ·have q:=T.done Y pY wY kY cY i [] s6 _ H6 (fun _ _=>False) I6 (U2 fr6) st6 stop
   rw [AY] at q
   @dN q fun r s7 aK0=>?_
   &⟨hr,I7⟩:=aK0
   subst hr
   have fr7:H6 C=none:=by
    have:=I7.free
    rw [eY] at this
    !this
   @fin acc C s7 H6 ?_ ?_ (I3.IV (Nat.le_of_eq hC) fr7) qn
   ·rw [<- hX] at I7
    !U1 I3 I7 (fun b hb=>f3 b hb) hC.symm (.refl ..)
   ·&⟨m,hm,_⟩:=I7.loc
    rw [eY] at hm
    !⟨m,hm⟩
  ·have q:=T.item Y pY wY kY cY i [] s6 _ H6 (fun _ _=>False) I6 (U2 fr6) st6 go
   rw [AY] at q
   @dN q fun r s7 aK1=>?_
   &⟨u,hr,h7⟩:=aK1
   subst hr
   @dN h7 fun _ s8 aK2=>?_
   &⟨x,H8,I8,r8,y8,st8,fr8⟩:=aK2
   have I8':=I8.pinned (U2 fr8) (T.obj _ _ st8)
   have hgY:=hg dl C (X.pn++pins) fp s3 (upd H2 acc (.lst []))
   have hfY:=hf dl C (X.pn++pins) fp s3 (upd H2 acc (.lst []))
   have heY:=he dl C (X.pn++pins) fp s3 (upd H2 acc (.lst []))
   rw [hX] at hgY hfY heY
   have q8:=hgY _ s8 _ H8 x u _ I8' r8 (step x H8 y8)
   rw [pY,wY,AY,eY,xY] at q8
   @dN q8 fun _ s9 aK4=>?_
   &⟨σ9,H9,I9,hσ9,q9⟩:=aK4
   have q10:=hfY _ s9 σ9 H9 _ I9 q9
   rw [pY,wY,AY,eY,xY] at q10
   @dN q10 fun ok s10 aK5=>?_
   &⟨H10,I10,q10⟩:=aK5
   have bl:∀ {H7:Hp} {s7:Shared},Inv Y ([]++xL fp s8.heap) σ9 H7 s7->(∃ m',m'<n /\ ∃ ys',W (i+1) m' H7 ys') -> ∃ m,m<n /\ ∃ i H' ys,Inv Y [] (GD ls.length fr σ) H' s7/\tn i s7.heap/\(∀ b∈fp,H' b=none)/\W i m H' ys:=fun {H7 s7} I7 ⟨m',hm,ys',w7⟩=>by
    @⟨m',hm,i+1,H7,ys',?_,T.keep _ _ _ st8 fun b hb o e=>(I7.pin (b,o) (List.mem_append_right _ (List.mem_append_right _ (nC hb e)))).1,fun b hb=>?_,w7⟩
    ·@I7.sF.weak ?_ fun k v e=>?_
     ·rw [I7.len,<- I6.len]
     ·by_cases hk:k<ls.length
      ·~GD at e
       rw [List.getElem?_append_left (¥hk),List.getElem?_replicate,if_pos hk] at e
       cases e
      ·have e2:(σ9.drop ls.length)[k - ls.length]? = some (some v):=by
        rw [hσ9]
        ~GD at e
        rw [List.getElem?_append_right (¥hk),List.length_replicate] at e
        !e
       rw [List.getElem?_drop] at e2
       rw [show ls.length+(k - ls.length)=k by omega] at e2
       !e2
    ·&⟨o,e,d⟩:=T.obj _ _ st8 b hb
     !(I7.pin (b,o) (List.mem_append_right _ (List.mem_append_right _ (nC hb e)))).2.1
   cases ok with
   | false =>
    rw [if_neg Bool.false_ne_true] at q10 ⊢
    &⟨m',hm,w'⟩:=q10
    !bl I10 ⟨m',hm,ys,w'⟩
   | true =>
    rw [if_pos rfl] at q10 ⊢
    have q11:=heY _ s10 σ9 H10 _ I10 q10
    rw [pY,wY,AY,eY,xY] at q11
    @dN q11 fun yv s11 aK6=>?_
    &⟨y,H11,I11,r11,aCf,aK7,m',hm,w'⟩:=aK6
    have q12:=(BO (X:=Y)) _ s11 σ9 H11 (.ref acc) [y] (.ref acc) [yv] (fun _ H'=>H' = upd H11 acc (.lst (ys++[y]))) I11 rfl (.cons r11 .nil) ⟨acc,ys,y,rfl,rfl,aCf,aK7,rfl⟩
    rw [pY,wY,AY,xY] at q12
    @dN q12 fun _ s12 aK8=>?_
    &⟨_,H12,I12,_,e12⟩:=aK8
    subst e12
    !bl I12 ⟨m',hm,_,w'⟩
 have L0:=loop _ ⟨0,_,I4,st4,fun b hb=>(f3 b hb).1,m0,[],w0⟩
 @codeAny_compStart_list L0 (T.self _ 0 _ _ _ st4 L0)
##ZW {ls fs:List Str} {fr:List Nat} {sc:Scope} {tg iter elt:Expr} {ifs:List Expr} {pos:Pos} {wi:TI} {g:TG} {tf:TFk} {te:TE}
  (hc:X.calm=true) (B:GF X ls fs fr sc) (hi:PI X tg iter wi) (hg:∀ cl C pn ex s H,PG (blk X (ls++fs) sc cl C pn ex s H) tg g) (hf:∀ cl C pn ex s H,PIf (blk X (ls++fs) sc cl C pn ex s H) ifs tf) (he:∀ cl C pn ex s H,PE (blk X (ls++fs) sc cl C pn ex s H) elt te)
  (hs:∀ x,foldedSetIterable iter X.env x=pure x:=by intro _; rfl):PE X (.ListComp elt [⟨tg,iter,ifs,0⟩] sc pos) (MR ls.length fr wi g tf te):=by
 intro pins s σ H Q I h
 rw [eval_ListComp]
 @GH (use:=none) hc B hi hg hf he hs I h fun acc C s' H' I' hm fp q=>?_
 &⟨m,hm⟩:=hm
 &⟨f0,f1,_,f3,f4,f5⟩:=fp
 !⟨m,hm,fun h' hsb=>⟨.ref acc,H',I'.turned (t':=s'.toks) (fun b o hb e=>(hsb.2 b hb).trans e) f0 f1 f3 f4 f5,rfl,q⟩⟩
##xV {i:Nat} {x:Str} {ls fs:List Str} {fr:List Nat} {sc:Scope} {tg iter elt:Expr} {ifs:List Expr} {pos spos pos':Pos} {wi:TI} {g:TG} {tf:TFk} {te:TE} (hN:X.N.Nodup) (hx0:X.N[i]? = some x) (hx:X.env.scope.names.lookup x=some .local)
  (hc:X.calm=true) (B:GF X ls fs fr sc) (hi:PI X tg iter wi) (hg:∀ cl C pn ex s H,PG (blk X (ls++fs) sc cl C pn ex s H) tg g) (hf:∀ cl C pn ex s H,PIf (blk X (ls++fs) sc cl C pn ex s H) ifs tf) (he:∀ cl C pn ex s H,PE (blk X (ls++fs) sc cl C pn ex s H) elt te)
  (hsw:swapsWith (.ListComp elt [⟨tg,iter,ifs,0⟩] sc pos) (some (.Name x pos')) spos.line X.env=pure true)
  (hs:∀ x,foldedSetIterable iter X.env x=pure x:=by intro _; rfl):PS X (.Assign [.Name x pos'] (.ListComp elt [⟨tg,iter,ifs,0⟩] sc pos) spos) (aBq (MR ls.length fr wi g tf te) (TN i)):=by
 intro pins s σ H D I h
 rw [exec_Assign_Name_used _ _ _ _ hsw]; @wpAny_bind (wpAny_standAt (wpAny_bind ?_))
 show wpAny _ X.A (do let _ <- comprehension (.ListComp elt [⟨tg,iter,ifs,0⟩] sc pos) sc X.env _ (newList []) false (eval iter X.env) (some (assign (.Name x pos') X.env))) _ _ s
 @wpAny_bind (wpAny_mono (GH (use:=some (assign (.Name x pos') X.env)) (Qv:=fun _ s'=>SP X pins D .next s') hc B hi hg hf he hs I h fun acc C s' H' I' hm fp q=>?_) (fun _ s' hq=>wpAny_pure (wpAny_pure hq)) fun _ _ e=>e)
 &⟨m,hm⟩:=hm
 &⟨f0,f1,_,f3,f4,f5⟩:=fp
 @wpAny_assign_Name (BH I' hN hx0 (.inl hx) (v:=.ref acc) rfl (fun s'' I'' hsb=>?_) (.inr hx))
 &⟨a,hsb,ha⟩:=hsb
 have haC:a≠C:=by
  rcases ha with rfl | ha
  ·!Ne.symm f1
  ·!f4 x a ha
 !⟨m,hm.sameBut hsb (Ne.symm haC),fun h' hs'=>⟨_,H',I''.turned (t':=s''.toks) (fun b o hb e=>(hs'.2 b hb).trans e) f0 f1 f3 f4 f5,q⟩⟩
end
def chk (outer:List (Str×NameKind)) (sc:Scope) (N ls fs:List Str) (fr:List Nat):Bool :=
 (sc.kind == .function)&&decide (ls++fs).Nodup&&sc.names.all (fun x=>decide (sc.names.lookup x.1=some x.2)) &&
 sc.names.all (fun x=>decide (x.2=.free->(outer.lookup x.1=some .cell\/outer.lookup x.1=some .free)))&&decide (fr.length=fs.length) &&
 (fs.zip fr).all (fun x=>decide (N[x.2]? = some x.1)&&sc.names.contains (x.1,NameKind.free)&&decide (sc.names.lookup x.1=some .free))
##nG {X:Cx} {ls fs:List Str} {fr:List Nat} {sc:Scope} (h:chk X.env.scope.names sc X.N ls fs fr=true):GF X ls fs fr sc:=by
 ~chk at h
 simp only [Bool.and_eq_true,List.all_eq_true,decide_eq_true_eq] at h
 &⟨⟨⟨⟨⟨h1,h2⟩,h3⟩,h5⟩,h6⟩,h7⟩:=h
 @⟨eq_of_beq h1,h2,h3,h5,fun k x e=>?_,h6⟩
 have hk:k<fs.length:=(List.getElem?_eq_some_iff.mp e).1
 have hm:(x,fr[k]'°)∈fs.zip fr:=by
  have:(fs.zip fr)[k]? = some (x,fr[k]'°):=by
   rw [List.getElem?_zip_eq_some]
   !⟨e,by simp⟩
  !List.mem_of_getElem? this
 &⟨⟨a,b⟩,c⟩:=h7 _ hm
 !⟨fr[k]'°,by simp,a,¥b,c⟩
abbrev GE:=D->bR->(bR->Prop)->Prop
def xW (K:PySem.W.Frag) (nl n:Nat) (g:GE):TG:=fun v σ H Q=>∃ (S:Addr->Prop) (ρ:bR) (d:D) (Q3:bR->Prop),σ.length=n/\(∀ a,H a=none->S a)/\Sl K S H ρ σ/\Dn K S H d v/\g d ρ Q3 /\
 ∀ σ' ρ',Sl K S H ρ' σ'->σ'.drop nl=σ.drop nl->Q3 ρ'->Q σ' H
def PG4 (X:Cx) (nl:Nat) (tg:Expr) (g:GE):Prop:=PG X tg (xW X.K nl X.N.length g)
##Sl.set {K:PySem.W.Frag} {S:Addr->Prop} {H:Hp} {ρ:bR} {σ:L2.St} {i:Nat} {d:D} {v:V} (h:Sl K S H ρ σ) (hi:i<σ.length) (q:Dn K S H d v):Sl K S H (ρ.set i (some d)) (σ.set i (some v)):=fun j e he=>by
 rcases get_set he with ⟨hj,z,_⟩ | ⟨hj,z⟩
 ·cases z
  subst hj
  !⟨v,List.getElem?_set_self hi,q⟩
 ·&⟨u,a,b⟩:=h j e z
  !⟨u,by rw [List.getElem?_set_ne (Ne.symm hj)]; !a,b⟩
def hN (i:Nat):GE:=fun d ρ Q=>Q (ρ.set i (some d))
def h2 (i j:Nat):GE:=fun d ρ Q=>match d with
 | .tup [d1,d2]=>Q ((ρ.set i (some d1)).set j (some d2))
 | _=>False
##drop_set {α:Type} {l:List α} {i n:Nat} {x:α} (h:i<n):(l.set i x).drop n=l.drop n:=by
 rw [List.drop_set,if_pos h]
section
variable {X:Cx}
##aFQ {nl i:Nat} {x:Str} {pos:Pos} (nd:X.N.Nodup) (hil:i<nl) (hi:X.N[i]? = some x:=by rfl) (hx:Loc X.env.scope x:=by first | !.inl rfl | !.inr rfl) (hfx:X.fn x=true\/X.env.scope.names.lookup x=some .local:=by first | !.inr rfl | !.inl rfl):PG4 X nl (.Name x pos) (hN i) :=
 OV (pG nd hi hx hfx) fun v σ H Q aK9=>by &⟨S,ρ,d,Q3,hl,fc,sl,dn,hg,k⟩:=aK9; !k _ _ (sl.set (by rw [hl]; !iO hi) dn) (drop_set hil) hg
##aFR {nl i j:Nat} {x y:Str} {kk:Nat} {pos px py:Pos} (hc:X.calm=true) (nd:X.N.Nodup) (hil:i<nl) (hjl:j<nl) (hi:X.N[i]? = some x:=by rfl) (hj:X.N[j]? = some y:=by rfl) (hx:Loc X.env.scope x:=by first | !.inl rfl | !.inr rfl) (hfx:X.fn x=true\/X.env.scope.names.lookup x=some .local:=by first | !.inr rfl | !.inl rfl) (hy:Loc X.env.scope y:=by first | !.inl rfl | !.inr rfl) (hfy:X.fn y=true\/X.env.scope.names.lookup y=some .local:=by first | !.inr rfl | !.inl rfl)
  (hn:(assignEach [.Name x px,.Name y py] X.env).length=2:=by rfl) (hst:(assignEach [.Name x px,.Name y py] X.env).findIdx? (·.1)=none:=by rfl)
  (hs1:(assignEach [.Name x px,.Name y py] X.env).map (·.2)=assign (.Name x px) X.env::(assignEach [.Name y py] X.env).map (·.2):=by rfl) (hs2:(assignEach [.Name y py] X.env).map (·.2)=assign (.Name y py) X.env::(assignEach [] X.env).map (·.2):=by rfl) :
  PG4 X nl (.Tuple [.Name x px,.Name y py] kk pos) (h2 i j) :=
 OV (TQ (n:=2) hc (sE (pG nd hi hx hfx) (sE (pG nd hj hy hfy) MA hs2) hs1) hn hst) fun v σ H Q aKb=>by
  &⟨S,ρ,d,Q3,hl,fc,sl,dn,hg,k⟩:=aKb
  ~h2 at hg
  split at hg
  ·rename_i d1 d2
   simp only [Dn] at dn
   &⟨a,xs,rfl,ha,da⟩:=dn
   &⟨v1,r1,rfl,h1,h2⟩:=da.bV
   &⟨v2,r2,rfl,h3,h4⟩:=h2.bV
   simp only [bC] at h4
   subst h4
   @⟨a,_,rfl,(gA.of ha),rfl,v1,[v2],rfl,v2,[],rfl,rfl,?_⟩
   !k _ _ ((sl.set (by rw [hl]; !iO hi) h1).set (by rw [List.length_set,hl]; !iO hj) h3) (by rw [drop_set hjl,drop_set hil]) hg
  ·!hg.elim
def OX (X:Cx) (ifs:List Expr) (t:WT):Prop:=PIf X ifs (liftT X.K t)
def aFS:WT:=fun _ Q=>Q true
##aKc:OX X [] aFS:=fun pins s σ H Q I aKd=>by &⟨S,ρ,Q3,fc,sl,ht,k⟩:=aKd; !ZV pins s σ H Q I (k true H (Same.refl H) ht)
##aFT {c:Expr} {t:WT} (h:vY X c t):OX X [c] t:=aCd h
def sN (g:GE) (tf:WT) (te:WE) (ρ:bR):List D->List D->(D->Prop)->Prop
 | [],acc,Q=>Q (.lst acc)
 | d::r,acc,Q=>g d ρ fun ρ2=>tf ρ2 fun b=>if b=true then te ρ2 fun y=>acc.length<sizeLine/\sN g tf te ρ r (acc++[y]) Q else sN g tf te ρ r acc Q
def benv (nl:Nat) (fr:List Nat) (ρ:bR):bR:=List.replicate nl none++fr.map fun j=>(ρ[j]?).join
def GJ (nl:Nat) (fr:List Nat) (ti:WI) (g:GE) (tf:WT) (te:WE):WE:=fun ρ Q=>ti ρ fun ds=>sN g tf te (benv nl fr ρ) ds [] Q
##ZX {K:PySem.W.Frag} {S:Addr->Prop} {H:Hp} {ρ:bR} {σ:L2.St} {nl:Nat} {fr:List Nat} (h:Sl K S H ρ σ):Sl K S H (benv nl fr ρ) (GD nl fr σ):=fun i d e=>by
 ~benv at e
 ~GD
 by_cases hi:i<nl
 ·rw [List.getElem?_append_left (¥hi),List.getElem?_replicate,if_pos hi] at e
  cases e
 ·rw [List.getElem?_append_right (¥hi),List.getElem?_map,List.length_replicate] at e ⊢
  cases q:fr[i - nl]? with
  | none=>rw [q] at e; cases e
  | some j =>
   rw [q] at e
   have e1:(ρ[j]?).join=some d:=Option.some.inj e
   have e2:ρ[j]? = some (some d):=by
    cases z:ρ[j]? with
    | none=>rw [z] at e1; cases e1
    | some o=>rw [z] at e1; rw [show o=some d from e1]
   &⟨v,ev,dv⟩:=h j d e2
   !⟨v,by show some ((σ[j]?).join)=_; rw [ev]; rfl,dv⟩
##t9 {K:PySem.W.Frag} {nl n:Nat} {fr:List Nat} {ti:WI} {g:GE} {tf:WT} {te:WE} {σ:L2.St} {H:Hp} {Q:VK} (hn:nl+fr.length=n) (h:UO K (GJ nl fr ti g tf te) σ H Q):MR nl fr (aAg K ti) (xW K nl n g) (liftT K tf) (lift K te) σ H Q:=by
 &⟨S,ρ,Q3,fc,sl,ht,k⟩:=h
 @⟨S,ρ,_,fc,sl,ht,fun J H1 ds G s1 hG wk q1=>?_⟩
 intro acc hacc
 have h0:H acc=none:=s1.free hacc
 have fc1:=bP fc s1
 have ok:∀ {H2:Hp},Same H1 H2->(∃ ys,H2 acc=some (.lst ys))->(∀ a,H2 a=none->S a/\a≠acc)/\Sl K (fun a=>S a/\a≠acc) H2 (benv nl fr ρ) (GD nl fr σ) /\ ∀ g∈G,Dn K (fun a=>S a/\a≠acc) H2 g.1 g.2:=fun {H2} s2 hy=>by
  @⟨fun a e=>⟨bP fc1 s2 a e,fun z=>?_⟩,?_,fun g hg=>Dn.fits ((Fits.fresh hacc).trans (.same s2)) _ _ (hG g hg)⟩
  ·subst z
   &⟨ys,hy⟩:=hy
   rw [e] at hy; cases hy
  ·!ZX (Sl.fits ((Fits.fresh h0).trans (.same (s1.trans s2))) sl)
 @⟨fun i m H2 ys=>m=ds.length - i/\i<=ds.length/\Same H1 H2/\H2 acc=some (.lst ys) /\ ∃ aD,bC K (fun a=>S a/\a≠acc) H2 aD ys/\sN g tf te (benv nl fr ρ) (ds.drop i) aD Q3,
  ⟨_,rfl,Nat.zero_le _,aX hacc,bD,[],bC.nil,q1⟩,?_⟩
 rintro i m H2 ys ⟨rfl,hi,s2,hy,aD,dn,cw⟩
 &⟨fc2,sl2,gh2⟩:=ok s2 ⟨ys,hy⟩
 @⟨hy,?_⟩
 by_cases hlt:i<ds.length
 ·@.inr ?_
  &⟨g1,g2⟩:=wk.go _ H2 fc2 gh2 i ds[i] (by simp [hlt])
  @⟨g1,fun x H' y=>?_⟩
  &⟨s3,dx⟩:=g2 x H' y
  rw [List.drop_eq_getElem_cons hlt,sN] at cw
  @⟨fun a=>S a/\a≠acc,benv nl fr ρ,ds[i],_,?_,bP fc2 s3,Sl.fits (.same s3) sl2,dx,cw,fun σ' ρ' sl' hd q'=>?_⟩
  ·~GD; rw [List.length_append,List.length_replicate,List.length_map]; !hn
  ·@⟨by rw [hd]; ~GD; rw [List.drop_append_of_le_length (by simp),List.drop_replicate]; simp,fun a=>S a/\a≠acc,ρ',_,bP fc2 s3,sl',q',fun b H3 s4 q4=>?_⟩
   cases b with
   | false =>
    rw [if_neg Bool.false_ne_true] at q4 ⊢
    !⟨_,by omega,rfl,hlt,(s2.trans s3).trans s4,(s3.trans s4) _ _ hy,aD,bC.fits (.same (s3.trans s4)) _ _ dn,q4⟩
   | true =>
    rw [if_pos rfl] at q4 ⊢
    @⟨fun a=>S a/\a≠acc,ρ',_,bP fc2 (s3.trans s4),Sl.fits (.same s4) sl',q4,fun v H4 d s5 d5 q5=>?_⟩
    have hy4:H4 acc=some (.lst ys):=((s3.trans s4).trans s5) _ _ hy
    have F:Fits K (fun a=>S a/\a≠acc) (fun a=>S a/\a≠acc) H4 (upd H4 acc (.lst (ys++[v]))):=.upd (.inl ⟨_,hy4⟩) fun z=>z.2 rfl
    @⟨hy4,by rw [<- dn.len]; !q5.1,_,by omega,rfl,hlt,fun b u hb=>?_,bD,aD++[d],bC.fits F _ _ ((bC.fits (.same ((s3.trans s4).trans s5)) _ _ dn).append (bC.one d5)),q5.2⟩
    rw [bQ (bU hb hacc)]
    !(((s2.trans s3).trans s4).trans s5) _ _ hb
 ·have e:i=ds.length:=by omega
  subst e
  rw [List.drop_length,sN] at cw
  !.inl ⟨wk.stop _ H2 gh2 _ rfl,k acc ys H2 aD h0 hy (s1.trans s2) dn cw⟩
##aFU {ls fs:List Str} {fr:List Nat} {sc:Scope} {tg iter elt:Expr} {ifs:List Expr} {pos:Pos} {ti:WI} {g:GE} {tf:WT} {te:WE} (hc:X.calm=true) (hi:UY X tg iter ti)
  (hg:∀ cl C pn ex s H,(blk X (ls++fs) sc cl C pn ex s H).N.Nodup->PG4 (blk X (ls++fs) sc cl C pn ex s H) ls.length tg g) (hf:∀ cl C pn ex s H,OX (blk X (ls++fs) sc cl C pn ex s H) ifs tf) (he:∀ cl C pn ex s H,cU (blk X (ls++fs) sc cl C pn ex s H) elt te)
  (B:chk X.env.scope.names sc X.N ls fs fr=true:=by rfl) (hs:∀ x,foldedSetIterable iter X.env x=pure x:=by intro _; rfl):HN X (.ListComp elt [⟨tg,iter,ifs,0⟩] sc pos) (GJ ls.length fr ti g tf te) :=
 imp (ZW (g:=xW X.K ls.length (ls++fs).length g) (tf:=liftT X.K tf) (te:=lift X.K te) hc (nG B) hi (fun cl C pn ex s H=>hg cl C pn ex s H (nG B).nd) hf he hs) fun σ H Q h=>t9 (n:=(ls++fs).length) (by rw [List.length_append,(nG B).GA]) h
##U3 {i:Nat} {x:Str} {ls fs:List Str} {fr:List Nat} {sc:Scope} {tg iter elt:Expr} {ifs:List Expr} {pos spos pos':Pos} {ti:WI} {g:GE} {tf:WT} {te:WE} (nd:X.N.Nodup) (hc:X.calm=true) (hi:UY X tg iter ti)
  (hg:∀ cl C pn ex s H,(blk X (ls++fs) sc cl C pn ex s H).N.Nodup->PG4 (blk X (ls++fs) sc cl C pn ex s H) ls.length tg g) (hf:∀ cl C pn ex s H,OX (blk X (ls++fs) sc cl C pn ex s H) ifs tf) (he:∀ cl C pn ex s H,cU (blk X (ls++fs) sc cl C pn ex s H) elt te)
  (hx0:X.N[i]? = some x:=by rfl) (hx:X.env.scope.names.lookup x=some .local:=by rfl) (hsw:swapsWith (.ListComp elt [⟨tg,iter,ifs,0⟩] sc pos) (some (.Name x pos')) spos.line X.env=pure true:=by rfl)
  (B:chk X.env.scope.names sc X.N ls fs fr=true:=by rfl) (hs:∀ x,foldedSetIterable iter X.env x=pure x:=by intro _; rfl):EM X (.Assign [.Name x pos'] (.ListComp elt [⟨tg,iter,ifs,0⟩] sc pos) spos) (aC2 i (GJ ls.length fr ti g tf te)) :=
 j3 (xV (g:=xW X.K ls.length (ls++fs).length g) (tf:=liftT X.K tf) (te:=lift X.K te) nd hx0 hx hc (nG B) hi (fun cl C pn ex s H=>hg cl C pn ex s H (nG B).nd) hf he hsw hs) fun Bd σ H aKe=>by
 &⟨H₀,S,w,ρ,G,E,hl,st,ht,ok⟩:=aKe
 !t9 (n:=(ls++fs).length) (by rw [List.length_append,(nG B).GA]) ⟨_,kD ρ,_,st.UM,st.rd,ht,fun p xs H' ds hp hp' s' d' q'=>ok.nx _ _ H' _ (by rw [List.length_set]; !hl) (st.xO (d:=.lst ds) (by rw [hl]; !iO hx0) s' hp ⟨xs,hp',d'⟩) q'⟩
end
section
variable {X:Cx}
def tyD:D->String
 | .non => "NoneType"
 | .bl _ => "bool"
 | .int _ => "int"
 | .str _ => "str"
 | .tup _ => "tuple"
 | .lst _ => "list"
 | .jW _ => "list"
 | .lB _ _ => "dict"
 | .dF _ _ _ => "dict"
 | .exc _ _ => "NoneType"
inductive Ty4:String->Prop
 | t:Ty4 "tuple"
 | b:Ty4 "bool"
 | i:Ty4 "int"
 | s:Ty4 "str"
def isT (T:String) (d:D):Bool:=tyD d == T||(T == "int" && tyD d == "bool")
def aKf (K:PySem.W.Frag) (T:String):List V->Hp->VK->Prop:=fun xs H Q=>∃ x t b,xs=[x,.ty T]/\(sG K H x t\/(t=.type "tuple" /\ ∃ a ys,x=.ref a/\gA K H a ys)\/(t=.type "list" /\ ∃ a ys,x=.ref a/\gH K H a ys))/\PySem.W.kitOne K t (.type T)=some b/\Q (.bl b) H
##U4 {T:String}:jI X (.builtin "isinstance") (aKf X.K T):=by
 intro pins s σ H xs us Q I r h
 &⟨x,t,b,rfl,ty,e,q⟩:=h
 &⟨u,w',rfl,r1,r2⟩:=vals2 r
 obtain rfl:w' = Value.type T:=r2
 rcases ty with ty | ⟨rfl,a,ys,rfl,hq⟩ | ⟨rfl,a,ys,rfl,hq⟩
 ·!OG I r1 ty e fun tk=>⟨.bl b,H,I.tok tk,rfl,q⟩
 ·cases r1
  &⟨its,_,p,_⟩:=I.tuple hq
  &⟨o,h1,h2,_⟩:=p
  !PySem.W.kia_one PySem.W.kitx_tuple I.zH ⟨o,h1,h2⟩ e (fun z=>nomatch z) fun tk=>⟨.bl b,H,I.tok tk,rfl,q⟩
 ·cases r1
  &⟨its,_,p,_⟩:=I.list hq
  &⟨o,n,h1,h2,_⟩:=p
  !PySem.W.kia_one PySem.W.kitx_list I.zH ⟨o,h1,h2⟩ e (fun z=>nomatch z) fun tk=>⟨.bl b,H,I.tok tk,rfl,q⟩
def aAk:D->Prop
 | .exc _ _=>False
 | .dF _ _ _=>False
 | _=>True
def aKg (T:String) (t:WE):WE:=fun ρ Q=>t ρ fun d=>aAk d/\Q (.bl (isT T d))
##aKh {K:PySem.W.Frag} {T:String} (h:Ty4 T) (d:D):PySem.W.kitOne K (.type (tyD d)) (.type T)=some (isT T d):=by
 cases h<;>cases d<;>with_unfolding_all rfl
##aFW {K:PySem.W.Frag} {S:Addr->Prop} {H:Hp} {d:D} {v:V} (hne:aAk d) (h:Dn K S H d v):∃ t,t=Value.type (tyD d)/\(sG K H v t\/(t=.type "tuple" /\ ∃ a ys,v=.ref a/\gA K H a ys)\/(t=.type "list" /\ ∃ a ys,v=.ref a/\gH K H a ys)):=by
 @⟨_,rfl,?_⟩
 cases d<;>simp only [Dn] at h
 ·subst h; !.inl .non
 ·subst h; !.inl (.bl _)
 ·subst h; !.inl (.int _)
 ·subst h; !.inl (.str _)
 ·&⟨a,xs,rfl,hq,_⟩:=h; !.inr (.inl ⟨rfl,a,xs,rfl,(gA.of hq)⟩)
 ·&⟨a,xs,rfl,hq,_⟩:=h; !.inl (.lst hq)
 ·&⟨a,rfl,hq⟩:=h; !.inr (.inr ⟨rfl,a,_,rfl,hq.sq⟩)
 ·&⟨a,xs,rfl,hq,_⟩:=h; !.inl (.dK hq)
 ·!hne.elim
 ·!hne.elim
##aKi {T:String} {x:Str} {e:Expr} {t:WE} {p p2 pos:Pos} (hT:Ty4 T) (hm:X.mg "isinstance" = none) (hmT:X.mg x=none) (hv:bootBuiltins x=some (.type T)) (he:cU X e t) (hg:Gl X "isinstance" := by rfl) (hgT:Gl X x:=by rfl) (hn:x ≠ "__name__" := by decide) (hdb:(x == ("__debug__" : Str))=false:=by decide)
  (hs:starEach [e,.Name x p2] X.env=(false,eval e X.env)::starEach [.Name x p2] X.env:=by rfl) (hs2:starEach [.Name x p2] X.env=(false,eval (.Name x p2) X.env)::starEach [] X.env:=by rfl) (hpl:(backTo pos (starEach [.Name x p2] X.env)).any (·.1)=false:=by rfl) :
  cU X (.Call (.Name "isinstance" p) [e,.Name x p2] [] pos) (aKg T t) :=
 imp (sH (U4 (T:=T)) hg hm PyProof.Rows.boot_isinstance (nE he (nE (YQ (v:=.ty T) hgT hmT hv rfl hn hdb) xM hs2) hs) § § hs hpl) fun σ H Q aKl=>by
  &⟨S,ρ,Q3,fc,sl,ht,k⟩:=aKl
  @⟨S,ρ,_,fc,sl,ht,fun v H1 d s1 d1 q1=>?_⟩
  &⟨tt,e1,e2⟩:=aFW q1.1 d1
  @⟨v,tt,isT T d,rfl,e2,?_,k _ H1 (.bl _) s1 (by simp only [Dn]) q1.2⟩
  rw [e1]; !aKh hT d
def aAl:List D->Option (List Bool)
 | []=>some []
 | .bl b::r=>(aAl r).map (b :: ·)
 | _::_=>none
##range_all (bs:List Bool):(List.range bs.length).all (fun i=>bs.getD i true)=bs.all id:=by
 induction bs with
 | nil=>rfl
 | cons b bs ih=>rw [List.length_cons,List.range_succ_eq_map,List.all_cons,List.all_map,List.all_cons,<- ih]; rfl
def blF (f:List Bool->Bool):F1
 | [.lst ds],Q=>(match aAl ds with | some bs=>Q (.bl (f bs)) | none=>False)
 | _,_=>False
def aAm:List V->Hp->VK->Prop:=fun xs H Q=>∃ a ns,xs=[.ref a]/\H a=some (.lst (ns.map V.int))/\ns.length<64 /\ ∀ ns':List Int,ns'.Perm ns->ns'.Pairwise (· <= ·) -> ∀ p,H p=none->Q (.ref p) (upd H p (.lst (ns'.map V.int)))
##D3:jI X (.builtin "sorted") aAm:=by
 intro pins s σ H xs us Q I r h
 &⟨a,ns,rfl,ha,h64,q⟩:=h
 &⟨u,rfl,ru⟩:=vals1 r
 cases ru
 &⟨its,rv,p,hz⟩:=I.list (gH.of ha)
 have hi:=intsAre_of rv
 have hlen:its.length=ns.length:=by have:=rv.length; rw [List.length_map] at this; !this.symm
 @sorted_ints p.isList hi ° fun out ns' a1 a2 a3=>?_
 have hfr:H (s.heap.objs.size+1)=none:=I.hok.fresh (Nat.le_succ _)
 &⟨e1,hat⟩:=sortedAll_at s.heap its out
 have hz2:ns'.length<=sizeLine:=by rw [a2.length_eq,sizeLine_eq]; omega
 have I1:Inv X pins σ (upd H (s.heap.objs.size+1) (.lst (ns'.map V.int))) { s with heap:=sortedAll s.heap its out } :=
  I.laid (t':=s.toks) (fun b o e=>sortedAll_old e) (Nat.le_succ _) ⟨by rw [List.length_map]; !hz2,out.toList,e1,pI a1,by simpa [seqObj] using hat⟩
 !⟨.ref _,_,I1,rfl,q ns' a2 a3 _ hfr⟩
def intsOf:List D->Option (List Int)
 | []=>some []
 | .int b::r=>(intsOf r).map (b :: ·)
 | _::_=>none
##eK:∀ bs:List Int,intsOf (bs.map D.int)=some bs
 | []=>rfl
 | b::bs=>by rw [List.map_cons,intsOf,eK bs]; rfl
##uA:∀ {ds:List D} {bs:List Int},intsOf ds=some bs->ds=bs.map D.int
 | [],bs,h=>by cases h; rfl
 | .int b::r,bs,h=>by
  rw [intsOf] at h
  cases q:intsOf r with
  | none=>rw [q] at h; cases h
  | some cs=>rw [q] at h; cases h; rw [List.map_cons,uA q]
 | .non::r,bs,h=>by cases h
 | .bl _::r,bs,h=>by cases h
 | .str _::r,bs,h=>by cases h
 | .tup _::r,bs,h=>by cases h
 | .lst _::r,bs,h=>by cases h
 | .jW _::r,bs,h=>by cases h
 | .lB _ _::r,bs,h=>by cases h
 | .dF _ _ _::r,bs,h=>by cases h
def U5:F1
 | [.lst ds],Q=>(match intsOf ds with | some ns=>ns.length<64 /\ ∀ ns':List Int,ns'.Perm ns->ns'.Pairwise (· <= ·)->Q (.lst (ns'.map D.int)) | none=>False)
 | _,_=>False
##ZY {K:PySem.W.Frag}:C3F K aAm U5:=by
 intro S H xs ds Q3 Q fc hd hf k
 match ds,hf with
 | [.lst es],hf =>
  &⟨v,r,rfl,h1,h2⟩:=hd.bV
  simp only [bC] at h2
  subst h2
  simp only [Dn] at h1
  &⟨a,ys,rfl,ha,sa,da⟩:=h1
  have hf2:(match intsOf es with | some ns=>ns.length<64 /\ ∀ ns':List Int,ns'.Perm ns->ns'.Pairwise (· <= ·)->Q3 (.lst (ns'.map D.int)) | none=>False):=hf
  clear hf
  cases q:intsOf es with
  | none=>rw [q] at hf2; !hf2.elim
  | some ns =>
   rw [q] at hf2
   have e:=uA q
   subst e
   have e2:=bC.ints.mp da
   subst e2
   !⟨a,ns,rfl,ha,hf2.1,fun ns' h1 h2 p hp=>k p _ _ _ hp bD (aX hp) (bC.ints.mpr rfl) (hf2.2 ns' h1 h2)⟩
##ZZ {p pos:Pos} {e:Expr} {t:WA} (hm:X.mg "sorted" = none) (ha:zJ X [e] t) (hg:Gl X "sorted" := by rfl)
  (he:starEach [e] X.env=(false,eval e X.env)::starEach [] X.env:=by rfl):HN X (.Call (.Name "sorted" p) [e] [] pos) (OT U5 t):=ZM D3 ZY PyProof.Rows.boot_sorted hg hm ha § § he (by rfl)
end
section
variable {i j:Int} {a b:List D} {Q:D->Prop}
end
section
variable {X:Cx}
##OY {a:Expr} {ta:TA} {p pos:Pos} (hg:Gl X "range") (hm:X.mg "range" = none) (ha:PA X [a] ta) (hs:starEach [a] X.env=[(false,eval a X.env)]:=by rfl) :
  PE X (.Call (.Name "range" p) [a] [] pos) (fun σ H Q=>ta σ H fun vs H1=>∃ j:Int,vs=[.int j] /\ ∀ p,H1 p=none->Q (.ref p) (upd H1 p (.rng 0 j))):=by
 intro pins s σ H Q I h
 @Call_ (qP I hg hm PyProof.Rows.boot_range (PyProof.Rows.callWith_type1 (dN (ha pos pins s σ H _ I h) fun us s1 ⟨vs,H1,I1,r1,q1⟩=>?_) hs rfl))
 &⟨j,e,q⟩:=q1
 subst e
 &⟨u,rfl,ru⟩:=vals1 r1
 &⟨t,rfl⟩:=ru
 @call_range_1 ?_
 !⟨.ref s1.heap.objs.size,_,I1.laid (o:=.rng 0 j) (fun b o e=>Heap.get?_push_of_some _ e) (Nat.le_refl _) ⟨_,_,_,Heap.get?_push_size _ rfl⟩,rfl,q _ (I1.hok.fresh (Nat.le_refl _))⟩
##U6 {lo:Int} {n:Nat} {acc:Array Value} (h:ItemsOf (fun i v=>∃ t,v=.int (lo+(i:Nat)*1) t) acc n):Vals ((t8 lo n).map V.int) acc.toList:=by
 &⟨hz,hv⟩:=h
 have key:∀ (l:List Value) (k:Nat) (m:Nat),l.length=m->(∀ (j:Nat) (v:Value),l[j]? = some v -> ∃ t,v=Value.int (lo+((k+j:Nat):Int)) t)->Vals (((List.range' k m).map fun i:Nat=>lo+(i:Int)).map V.int) l:=by
  intro l
  induction l with
  | nil=>intro k m hm _; subst hm; !.nil
  | cons v l ih =>
   intro k m hm hh
   subst hm
   rw [List.length_cons,List.range'_succ,List.map_cons,List.map_cons]
   @.cons ?_ (ih (k+1) l.length rfl fun j w e=>?_)
   ·&⟨t,e⟩:=hh 0 v (by simp)
    !⟨t,¥e⟩
   ·&⟨t,e2⟩:=hh (j+1) w (¥e)
    !⟨t,by rw [e2]; congr 1; congr 1; congr 1; omega⟩
 have:=key acc.toList 0 n (¥hz) fun j v e=>by
  &⟨t,e2⟩:=hv j v (¥e)
  !⟨t,by rw [e2]; simp⟩
 ~t8
 rw [List.range_eq_range']
 !this
##zY (hc:X.calm=true):jI X (.type "list") (fun xs H Q=>∃ p j,xs=[.ref p]/\H p=some (.rng 0 j) /\ -(2 ^ 62)<=j/\j<=16777216 /\ ∀ l,H l=none->Q (.ref l) (upd H l (.lst ((t8 0 j.toNat).map V.int)))):=by
 intro pins s σ H xs us Q I r h
 &⟨p,j,rfl,hp,h0,h1,q⟩:=h
 &⟨u,rfl,ru⟩:=vals1 r
 cases ru
 &⟨t,u,v,e⟩:=I.hok p _ hp
 have hsz:Builtin.Range.rangeSize 0 j 1=(j.toNat:Int):=by rw [rangeSize_one]; split<;>omega
 @call_list_range (a:=0) (b:=j) (c:=1) (n:=j.toNat) (I.ok.hd hc) e (small_one ° ° ° °) hsz ° fun h' tk acc' c' kp hn hit=>?_
 have hfr:H s.heap.objs.size=none:=I.hok.fresh (Nat.le_refl _)
 have hv:Vals ((t8 0 j.toNat).map V.int) acc'.toList:=U6 hit
 @⟨.ref s.heap.objs.size,_,I.laid (o:=.lst ((t8 0 j.toNat).map V.int)) kp (Nat.le_refl _) ⟨?_,acc'.toList,c',hv,¥hn⟩,rfl,q _ hfr⟩
 rw [List.length_map,uT,sizeLine_eq]
 omega
def aCg (t:WA):WE:=fun ρ Q=>t ρ fun ds=>match ds with
 | [.int j]=>(-(2 ^ 62)<=j/\j<=16777216)/\Q (.lst ((t8 0 j.toNat).map D.int))
 | _=>False
##JK {a:Expr} {t:WA} {p pos p2 pos2:Pos} (hc:X.calm=true) (hm:X.mg "list" = none) (hmr:X.mg "range" = none) (ha:zJ X [a] t) (hg:Gl X "list" := by rfl) (hgr:Gl X "range" := by rfl) (hs:starEach [a] X.env=[(false,eval a X.env)]:=by rfl)
  (he:starEach [.Call (.Name "range" p2) [a] [] pos2] X.env=(false,eval (.Call (.Name "range" p2) [a] [] pos2) X.env)::starEach [] X.env:=by rfl) :
  HN X (.Call (.Name "list" p) [.Call (.Name "range" p2) [a] [] pos2] [] pos) (aCg t) :=
 imp (pH (zY hc) hg hm PyProof.Rows.boot_list (nE (OY hgr hmr ha hs) xM he) § § he (by rfl)) fun σ H Q aKm=>by
  &⟨S,ρ,Q3,fc,sl,ht,k⟩:=aKm
  @⟨S,ρ,_,fc,sl,ht,fun vs H1 ds s1 d1 q1=>?_⟩
  split at q1
  ·rename_i j
   &⟨v,r,rfl,h1,h2⟩:=d1.bV
   simp only [bC] at h2
   subst h2
   simp only [Dn] at h1
   subst h1
   @⟨j,rfl,fun p hp=>⟨p,j,rfl,bD,q1.1.1,q1.1.2,fun l hl=>?_⟩⟩
   have hl1:H1 l=none:=(aX hp).free hl
   !k l _ _ _ (s1.free hl1) bD ((s1.trans (aX hp)).trans (aX hl)) (bC.ints.mpr rfl) q1.2
  ·!q1.elim
def lH (ks:List Key) (ds:List D) (k:Key):Option D:=((ks.zip ds).find? fun kv=>decide (kv.1=k)).map (·.2)
##xX {K:PySem.W.Frag} {S:Addr->Prop} {H:Hp} {k:Key}:∀ {ks:List Key} {ds:List D} {xs:List V},ks.length=xs.length->bC K S H ds xs ->
  (∀ d,lH ks ds k=some d -> ∃ v,iB (ks.zip xs) k=some v/\Dn K S H d v)/\(lH ks ds k=none->iB (ks.zip xs) k=none)
 | [],ds,xs,_,_=>by
  @⟨fun d e=>?_,fun _=>?_⟩
  ·simp [lH] at e
  ·simp [iB]
 | q::ks,ds,xs,hl,dn=>by
  cases ds with
  | nil=>simp only [bC] at dn; subst dn; simp at hl
  | cons d0 ds =>
   &⟨v,r,rfl,h1,h2⟩:=dn.bV
   have ih:=xX (k:=k) (ks:=ks) (ds:=ds) (xs:=r) (¥hl) h2
   by_cases e:q=k
   ·@⟨fun d ed=>?_,fun ed=>?_⟩
    ·simp only [lH,List.zip_cons_cons,List.find?_cons,e,decide_true,Option.map_some] at ed
     cases ed
     !⟨v,by simp [iB,e],h1⟩
    ·simp [lH,e] at ed
   ·@⟨fun d ed=>?_,fun ed=>?_⟩
    ·have ed':lH ks ds k=some d:=by simpa [lH,e] using ed
     &⟨u,eu,du⟩:=ih.1 d ed'
     !⟨u,by simpa [iB,e] using eu,du⟩
    ·have ed':lH ks ds k=none:=by simpa [lH,e] using ed
     simpa [iB,e] using ih.2 ed'
##U7 {i:Nat} {x:Str} {pos pos' p:Pos} (hN:X.N.Nodup) (hi:X.N[i]? = some x:=by rfl) (hx:Loc X.env.scope x:=by first | !.inl rfl | !.inr rfl) (hs:swapsWith (.Dict [] [] p) (some (.Name x pos')) pos.line X.env=pure false:=by rfl) (hf:X.fn x=true\/X.env.scope.names.lookup x=some .local:=by first | !.inl rfl | !.inr rfl) :
  EM X (.Assign [.Name x pos'] (.Dict [] [] p) pos) (fun E ρ=>E.nx (ρ.set i (.ow (.lB [] [])))):=j3 (oG hN hi hx UJ hs hf) fun B σ H ⟨H₀,S,w,ρ,G,E,hl,st,ht,ok⟩=>fun p hp =>
 ok.nx _ _ _ _ (by rw [List.length_set]; !hl) (st.xO (d:=.lB [] []) (by rw [hl]; !iO hi) (aX hp) hp ⟨[],bD,rfl,bC.nil⟩) ht
def GK:D->Option Key
 | .int i=>some (.inl i)
 | .str x=>some (.inr x)
 | _=>none
##U8 {K:PySem.W.Frag} {S:Addr->Prop} {H:Hp} {d:D} {v:V} {k:Key} (h:Dn K S H d v) (e:GK d=some k):v=kV k:=by
 cases d<;>simp only [GK] at e<;>cases e<;>simp only [Dn] at h<;>!h
def aCh:F2:=fun x y Q=>match x,GK y with
 | .lB ks ds,some k=>(match lH ks ds k with | some d=>Q d | none=>False)
 | _,_=>False
##aKn {o i:Expr} {pos:Pos} {to ti:WE} (hu:X.A.units+1<cLine) (ho:cU X o to) (hi:cU X i ti) (hs:OO i:=by intro _ _; rfl):cU X (.Subscript o i pos) (iM aCh to ti):=imp (ZC hu ho hi hs) fun σ H Q aKo=>by
 &⟨S,ρ,Q3,fc,sl,ht,k⟩:=aKo
 @⟨S,ρ,_,fc,sl,ht,fun v H1 d s1 d1 q1=>?_⟩
 @⟨S,ρ,_,bP fc s1,Sl.fits (.same s1) sl,q1,fun u H2 d2 s2 Q2 q2=>?_⟩
 ~aCh at q2
 split at q2
 ·rename_i ks ds kk ek
  have d1':=Dn.fits (.same s2) _ _ d1
  simp only [Dn] at d1'
  &⟨a,xs,rfl,ha,sa,hl,da⟩:=d1'
  split at q2
  ·rename_i d3 e3
   &⟨v3,ev,dv⟩:=(xX hl da).1 d3 e3
   have eu:=U8 Q2 ek
   subst eu
   @⟨a,v3,rfl,?_,k v3 H2 d3 (s1.trans s2) dv q2⟩
   have g:=FX.k (k:=kk) ha
   rw [ev] at g
   !g
  ·!q2.elim
 ·!q2.elim
def aFX (i:Nat) (t:WX) (tk:WE):WS:=fun E ρ=>t ρ fun ρ' d=>(match ρ'[i]? with | some (.ow (.lB _ _))=>True | _=>False)/\tk (bT ρ') fun kd=>match ρ'[i]?,GK kd with
 | some (.ow (.lB ks ds)),some k=>(lH ks ds k=none/\ds.length<sizeLine)/\E.nx (ρ'.set i (.ow (.lB (ks++[k]) (ds++[d]))))
 | _,_=>False
##aFY {i:Nat} {x:Str} {e k:Expr} {t:WX} {tk:WE} {pos pos' p:Pos} (hu:X.A.units+1<cLine) (he:GC X e t) (hk:cU X k tk)
  (hN:X.N[i]? = some x:=by rfl) (hv:EL X.env.scope x:=by first | !Or.inl rfl | !Or.inr (Or.inl rfl) | !Or.inr (Or.inr rfl)) (hd:(x == ("__debug__" : Str))=false:=by decide) (hcd:(x == ("__classdict__" : Str))=false:=by decide)
  (hs:swapsWith e (some (.Subscript (.Name x p) k pos')) pos.line X.env=pure false:=by rfl) :
  EM X (.Assign [.Subscript (.Name x p) k pos'] e pos) (aFX i t tk):=j3 (ZD hu (t5 hN hv hd hcd) hk he hs) fun B σ H aKp=>by
 &⟨H₀,S,w,ρ,G,E,hl,st,ht,ok⟩:=aKp
 @⟨H₀,S,w,ρ,G,_,hl,st,ht,fun w' v H' ρ' d st' d' q'=>?_⟩
 &⟨q0,q'⟩:=q'
 split at q0
 ·rename_i ks0 ds0 e0
  &⟨a0,_,_⟩:=st'.own i _ e0
  @⟨_,a0,S,bT ρ',_,st'.OQ,st'.all,q',fun kv H2 dk s2 dk2 q2=>?_⟩
  split at q2
  ·rename_i ks ds kk e1 ek
   have st2:=st'.same s2
   &⟨a,b,c⟩:=st2.own i _ e1
   &⟨xs,hp,hlen,dn⟩:=c
   have eu:=U8 dk2 ek
   subst eu
   have hno:=(xX (k:=kk) hlen dn).2 q2.1.1
   have nS:¬ SO S w' ρ' (w' i):=fun ⟨_,z⟩=>z i _ e1 rfl
   have hz:(ks.zip xs).length<sizeLine:=by
    rw [List.length_zip,hlen,Nat.min_self,<- dn.len]; !q2.1.2
   have aKq:putK (ks.zip xs) kk v=(ks++[kk]).zip (xs++[v]):=by
    rw [UF v hno,List.zip_append hlen]; rfl
   have F:Fits X.K (SO S w' ρ') (SO S w' ρ') H2 (upd H2 (w' i) (.dK (putK (ks.zip xs) kk v))):=.upd (.inr (.inl ⟨_,hp⟩)) nS
   @⟨w' i,_,rfl,JG.k hp hz,ok.nx w' σ _ _ hl (st2.write (d':=.lB (ks++[kk]) (ds++[d])) e1 ⟨xs++[v],?_,by simp [hlen],bC.fits F _ _ (dn.append (bC.one (Dn.fits (.same s2) _ _ d')))⟩) q2.2⟩
   rw [bD,aKq]
  ·!q2.elim
 ·!q0.elim
def aAn (i:Nat) (t:WE):WS:=fun E ρ=>t (bT ρ) fun d=>(match d with | .lst ds=>kW ds=true | _=>False)/\E.nx (ρ.set i (.ro d))
##aFZ {i:Nat} {x:Str} {e:Expr} {t:WE} {pos pos':Pos} (hN:X.N.Nodup) (he:HN X e t) (hi:X.N[i]? = some x:=by rfl) (hx:Loc X.env.scope x:=by first | !.inl rfl | !.inr rfl) (hs:swapsWith e (some (.Name x pos')) pos.line X.env=pure false:=by rfl) (hf:X.fn x=true\/X.env.scope.names.lookup x=some .local:=by first | !.inl rfl | !.inr rfl) :
  EM X (.Assign [.Name x pos'] e pos) (aAn i t):=j3 (oG hN hi hx he hs hf) fun B σ H aKr=>by
 &⟨H₀,S,w,ρ,G,E,hl,st,ht,ok⟩:=aKr
 !⟨_,bT ρ,_,st.OQ,st.all,ht,fun p xs H' ds hp hp' s' d' q'=>ok.nx w _ H' _ (by rw [List.length_set]; !hl) ((st.same s').nF (d:=.lst ds) (by rw [hl]; !iO hi) (by simp only [Dn]; !⟨p,xs,rfl,hp',st.UM p hp,bC.vN q'.1 d'⟩)) q'.2⟩
def aCi (c:WT) (tb:WS):WS:=fun E ρ=>∃ (Inv:aP->Prop) (μ:aP->Nat),Inv ρ /\ ∀ ρ',Inv ρ'->c (bT ρ') fun b=>if b=true then tb { E with nx:=fun ρ2=>Inv ρ2/\μ ρ2<μ ρ',ct:=fun ρ2=>Inv ρ2/\μ ρ2<μ ρ',bk:=E.nx } ρ' else E.nx ρ'
##aCj {c:Expr} {body:List Stmt} {tc:WT} {tb:WS} {pos:Pos} (hp:PassesOwn (model X.prog X.w) X.A X.env X.xe) (hc:vY X c tc) (hb:vG X body tb):EM X (.While c body [] pos) (aCi tc tb):=j3 (TR hp hc hb) fun B σ H aKs=>by
 &⟨H₀,S,w,ρ,G,E,hl,st,⟨Iv,μ,h0,turn⟩,ok⟩:=aKs
 @⟨fun m σ H=>∃ w ρ,σ.length=X.N.length/\ST X.K H₀ S w σ H ρ G/\Iv ρ/\m=μ ρ,⟨_,w,ρ,hl,st,h0,rfl⟩,?_⟩
 rintro m σ2 H2 ⟨w2,ρ2,hl2,st2,iv,rfl⟩
 @⟨S,bT ρ2,_,st2.OQ,st2.all,turn ρ2 iv,fun b H3 s3 q3=>?_⟩
 cases b with
 | false=>rw [if_neg Bool.false_ne_true] at q3 ⊢; !ok.nx w2 σ2 H3 ρ2 hl2 (st2.same s3) q3
 | true =>
  rw [if_pos rfl] at q3 ⊢
  @⟨fun σ' H'=>∃ w ρ,σ'.length=X.N.length/\ST X.K H₀ S w σ' H' ρ G/\Iv ρ/\μ ρ<μ ρ2,fun σ' H' ⟨w',ρ',hl',st',iv',hm⟩=>⟨_,hm,w',ρ',hl',st',iv',rfl⟩,?_⟩
  !⟨H₀,S,w2,ρ2,G,_,hl2,st2.same s3,q3,⟨fun w' σ' H' ρ' hl' st' q=>⟨w',ρ',hl',st',q.1,q.2⟩,fun v H' d s' d' q=>ok.rt v H' d s' d' q,fun w' σ' H' ρ' hl' st' q=>ok.nx w' σ' H' ρ' hl' st' q,fun w' σ' H' ρ' hl' st' q=>⟨w',ρ',hl',st',q.1,q.2⟩,ok.ex⟩⟩
def aCk:List D->D->(List D->D->Prop)->Prop
 | ds,.lst es,Q=>ds.length+es.length<=sizeLine/\Q (ds++es) .non
 | _,_,_=>False
##aCl {K:PySem.W.Frag}:M3 K MK aCk:=by
 intro S H p xs ds y d Q3 Q hp dn dy hf k
 cases d with
 | lst es =>
  simp only [Dn] at dy
  &⟨b,zs,rfl,hb,sb,db⟩:=dy
  !⟨p,b,xs,zs,rfl,rfl,hp,hb,by rw [<- dn.len,<- db.len]; !hf.1,k _ _ _ _ (dn.append db) (by simp only [Dn]) hf.2⟩
 | _=>!hf.elim
section
variable {i:Nat} {x:Str} {e:Expr} {p apos cpos:Pos} {t:WX}
##Z0 (he:GC X e t) (hN:X.N[i]? = some x:=by rfl) (hv:EL X.env.scope x:=by first | !Or.inl rfl | !Or.inr (Or.inl rfl) | !Or.inr (Or.inr rfl)) (hd:(x == ("__debug__" : Str))=false:=by decide) (hcd:(x == ("__classdict__" : Str))=false:=by decide)
  (hbase:attributeBase (.Name x p) "extend" X.env (eval (.Name x p) X.env)=eval (.Name x p) X.env:=by rfl)
  (hfew:((backTo cpos (starEach [e] X.env)).all (fun x=>!x.1)&&(backToKw cpos (keywordEach [] X.env)).all (fun x=>x.1.isSome)
   && decide ([e].length+([]:List Keyword).length+(if ([]:List Keyword).isEmpty then 0 else 1)<30))=true:=by rfl)
  (hline:(apos.endLine == cpos.line)=true:=by rfl) (hs:starEach [e] X.env=(false,eval e X.env)::starEach [] X.env:=by rfl) :
  GC X (.Call (.Attribute (.Name x p) "extend" apos) [e] [] cpos) (wM1 i aCk t):=m1 PySem.F.slot_list_extend PySem.F.type_list_extend OJ aCl he hN hv hd hcd hbase hfew hline hs
def aAo (i:Nat):WX:=fun ρ Q=>match ρ[i]? with
 | some (.ow (.lst ds))=>(match ds[ds.length - 1]? with | some d=>Q (ρ.set i (.ow (.lst ds.dropLast))) d | none=>False)
 | _=>False
##bC.dropLast {K:PySem.W.Frag} {S:Addr->Prop} {H:Hp} {ds:List D} {xs:List V} (h:bC K S H ds xs):bC K S H ds.dropLast xs.dropLast:=by
 rw [<- qR,<- qR,<- h.len]
 !h.erase _
##aF0 (hN:X.N[i]? = some x:=by rfl) (hv:EL X.env.scope x:=by first | !Or.inl rfl | !Or.inr (Or.inl rfl) | !Or.inr (Or.inr rfl)) (hd:(x == ("__debug__" : Str))=false:=by decide) (hcd:(x == ("__classdict__" : Str))=false:=by decide)
  (hbase:attributeBase (.Name x p) "pop" X.env (eval (.Name x p) X.env)=eval (.Name x p) X.env:=by rfl) (hline:(apos.endLine == cpos.line)=true:=by rfl) :
  GC X (.Call (.Attribute (.Name x p) "pop" apos) [] [] cpos) (aAo i) :=
 imp (aCP PySem.F.plainAttrs_list PySem.F.slot_list_pop PySem.F.type_list_pop aCQ (t5 hN hv hd hcd) hbase hline) fun σ H Q aKt=>by
  &⟨H₀,S,w,ρ,G,Q3,hl,st,ht,k⟩:=aKt
  ~aAo at ht
  split at ht
  ·rename_i ds e
   split at ht
   ·rename_i d ed
    &⟨a,b,c⟩:=st.own i _ e
    &⟨xs,hp,dn⟩:=c
    &⟨v,ev,dv⟩:=dn.get ed
    have nS:¬ SO S w ρ (w i):=fun ⟨_,z⟩=>z i _ e rfl
    have F:Fits X.K (SO S w ρ) (SO S w ρ) H (upd H (w i) (.lst xs.dropLast)):=.upd (.inl ⟨_,hp⟩) nS
    have so:∀ a,SO S w ρ a->SO S w (ρ.set i (.ow (.lst ds.dropLast))) a:=SO.mono fun j f hf=>by
     rcases get_set hf with ⟨hj,_,_⟩ | ⟨_,z⟩
     ·subst hj; !⟨_,e⟩
     ·!⟨_,z⟩
    @⟨_,a,.inl ⟨rfl,xs,gH.of hp⟩,w i,xs,v,rfl,rfl,hp,by rw [<- dn.len]; !ev,?_⟩
    !k w v _ _ d (st.write (d':=.lst ds.dropLast) e ⟨_,bD,bC.fits F _ _ dn.dropLast⟩) (Dn.fits (F.trans (.mono so)) _ _ dv) ht
   ·!ht.elim
  ·!ht.elim
end
end
section
variable {X:Cx} {pins:List (Addr×Obj)} {σ:L2.St} {H:Hp} {s:Shared} {h':Heap}
##turnT {t':Nat} {ch:List Addr} {T:Addr} {xs:List V} {its:List Value} (I:Inv X pins σ H s) (k:∀ b o,b∉ch->s.heap.get? b=some o->h'.get? b=some o) (hf:∀ b∈ch,qQ X pins H b)
  (hT:s.heap.objs.size<=T) (hv:Vals xs its) (hz:xs.length<=sizeLine) (ht:IsTup h' T its.toArray):Inv X pins σ (upd H T (.tup xs)) { s with heap:=h',toks:=t' }:=by
 have fr:H T=none:=I.hok.fresh hT
 have nT:∀ {b:Addr} {o:Obj},s.heap.get? b=some o->b≠T:=fun {b} {o} e z=>Nat.lt_irrefl _ (Nat.lt_of_lt_of_le (Heap.lt_size e) (z▸hT))
 have live:∀ {b:Addr} {u:HO},H b=some u->b∉ch:=fun {b} {u} e z=>by rw [(hf _ z).1] at e; cases e
 @I.call' (s':={ s with heap:=h',toks:=t' }) (ch:=ch) rfl ⟨fun b o e _ _ hx=>k b o hx e,fun b o e _ _ hx=>⟨o.slots,k b o hx e⟩,fun b o e n _=>by rw [bQ (nT e)]; !n,fun b o e hx=>⟨o,k b o hx e⟩,
  fun b ys e=>by rw [bQ (bU e fr)]; !e,fun b o u e=>by rw [bQ (bU e fr)]; !e,fun b ps e=>⟨#[],by rw [bQ (bU e fr),e]; simp⟩⟩ ?_ I.bare fun b hb=>?_
 ·intro b u e
  by_cases hb:b=T
  ·subst hb; rw [bD] at e; cases e; !⟨hz,its,hv,ht⟩
  ·rw [bQ hb] at e
   @(I.hok b u e).stay (fun c v hc q=>k c v ?_ q) (fun c q=>by rw [bQ (bU q fr)]; !q) fun c ys q=>by rw [bQ (bU q fr)]; !q
   rcases hc with rfl | hc
   ·!live e
   ·!live hc
 ·&⟨_,f1,_,f3,f4,f5⟩:=hf b hb
  !⟨f3,f1,f4,f5⟩
##U9 {t':Nat} {ch:List Addr} (I:Inv X pins σ H s) (k:∀ b o,b∉ch->s.heap.get? b=some o->h'.get? b=some o) (hf:∀ b∈ch,qQ X pins H b):Inv X pins σ H { s with heap:=h',toks:=t' }:=by
 have live:∀ {b:Addr} {u:HO},H b=some u->b∉ch:=fun {b} {u} e z=>by rw [(hf _ z).1] at e; cases e
 @I.call' (s':={ s with heap:=h',toks:=t' }) (ch:=ch) rfl ⟨fun b o e _ _ hx=>k b o hx e,fun b o e _ _ hx=>⟨o.slots,k b o hx e⟩,fun b o e n _=>n,fun b o e hx=>⟨o,k b o hx e⟩,
  fun b ys e=>e,fun b o u e=>e,fun b ps e=>⟨#[],by rw [e]; simp⟩⟩ ?_ I.bare fun b hb=>?_
 ·intro b u e
  @(I.hok b u e).stay (fun c v hc q=>k c v ?_ q) (fun c q=>q) fun c ys q=>q
  rcases hc with rfl | hc
  ·!live e
  ·!live hc
 ·&⟨_,f1,_,f3,f4,f5⟩:=hf b hb
  !⟨f3,f1,f4,f5⟩
end
def Itp (go:Nat->Hp->Prop) (Y:Nat->Hp->List V->Prop) (stop:Nat->Hp->Prop):It:=⟨go,fun i H x H'=>∃ T vs,x=.ref T/\H T=none/\H' = upd H T (.tup vs)/\Y i H vs,stop⟩
##xZ {P:Program} {w:World} {K:PySem.W.Frag} {es:List Expr} {kk:Nat} {tp:Pos} {go:Nat->Hp->Prop} {Y:Nat->Hp->List V->Prop} {stop:Nat->Hp->Prop} {fp:List Addr} {it:Addr} {tn:Nat->Heap->Prop} (mem:it∈fp)
  (obj:∀ i h,tn i h -> ∀ b∈fp,∃ o,h.get? b=some o /\ ∀ v,o.data≠.cell v) (keep:∀ i h h',tn i h->(∀ b∈fp,∀ o,h.get? b=some o->h'.get? b=some o)->tn i h')
  (wk:∀ (X:Cx),X.prog=P->X.w=w->X.K=K->X.calm=true -> ∀ (i:Nat) (pins:List (Addr×Obj)) (s:Shared) (σ:L2.St) (H:Hp),Inv X pins σ H s->tn i s.heap->go i H\/stop i H ->
   ∃ fp2 wr n Pt St Mid,WalksT P w X.A it fp2 wr n Pt St Mid/\St i s.heap/\(∀ b∈wr,b∈fp)/\(∀ h,St (i+1) h->tn (i+1) h) /\
    (go i H->i<n /\ ∀ vals,Pt i vals -> ∃ vs,vs.length<=sizeLine/\Vals vs vals.toList/\Y i H vs)/\(stop i H->i=n))
  (self:∀ (A:Around) (i:Nat) (s:Shared) (Q:Value->Shared->Prop) (E:Value->Shared->Prop),tn i s.heap->Q (.ref it) s->wpAny (model P w) A (pyIter (.ref it)) Q E s) :
  Turn P w K (.Tuple es kk tp) (Itp go Y stop) fp it tn where
 mem:=mem
 obj:=obj
 keep:=keep
 self:=self
 item:=by
  intro X hP hw hK hc i pins s σ H E I hf st hg
  &⟨fp2,wr,n,Pt,St,Mid,W,hs,sub,nx,ok,_⟩:=wk X hP hw hK hc i pins s σ H I st (.inl hg)
  &⟨hi,ok⟩:=ok hg
  @W.item i s _ _ hi hs fun T vals h1 tk hp hT ht hm k1=>⟨.ref T,rfl,W.go es kk tp i T _ _ _ hm fun h2 s2 k2=>?_⟩
  &⟨vs,hz,hv,hy⟩:=ok vals hp
  &⟨o,eo,c,d⟩:=ht
  have ht2:IsTup h2 T vals.toList.toArray:=⟨o,k2 T o (W.apart i T _ hm) eo,c,¥d⟩
  have I2:Inv X pins σ (upd H T (.tup vs)) { s with heap:=h2,toks:=tk }:=turnT (t':=tk) (ch:=wr) I (fun b o hb e=>k2 b o hb (k1 b o hb e)) (fun b hb=>hf b (sub b hb)) hT hv hz ht2
  @⟨.ref T,upd H T (.tup vs),I2,rfl,⟨T,vs,rfl,I.hok.fresh hT,rfl,hy⟩,nx h2 s2,fun b hb=>?_⟩
  &⟨ob,eb,_⟩:=obj _ _ st b hb
  have nb:b≠T:=fun z=>Nat.lt_irrefl _ (Nat.lt_of_lt_of_le (Heap.lt_size eb) (z▸hT))
  rw [bQ nb]
  !(hf b hb).1
 done:=by
  intro X hP hw hK hc i pins s σ H E I hf st hg
  &⟨fp2,wr,n,Pt,St,Mid,W,hs,sub,nx,_,ok⟩:=wk X hP hw hK hc i pins s σ H I st (.inr hg)
  obtain rfl:=ok hg
  !W.done s _ _ hs fun h2 tk k2=>⟨rfl,U9 (t':=tk) (ch:=wr) I k2 fun b hb=>hf b (sub b hb)⟩
def Iel (K:PySem.W.Frag) (l:Addr):It:=Itp (fun i H=>∃ xs v,gH K H l xs/\xs[i]? = some v) (fun i H vs=>∃ v,vs=[.int i,v] /\ ∀ xs,gH K H l xs->xs[i]? = some v) (fun i H=>∃ xs,gH K H l xs/\xs.length=i)
def Iet (K:PySem.W.Frag) (l:Addr):It:=Itp (fun i H=>∃ xs v,gA K H l xs/\xs[i]? = some v) (fun i H vs=>∃ v,vs=[.int i,v] /\ ∀ xs,gA K H l xs->xs[i]? = some v) (fun i H=>∃ xs,gA K H l xs/\xs.length=i)
##GL:[V.int 0,V.int 0].length<=sizeLine:=by rw [sizeLine_eq]; decide
##JL {P:Program} {w:World} {K:PySem.W.Frag} {es:List Expr} {kk:Nat} {tp:Pos} {e it l:Addr} (hei:e≠it) (hle:l≠e) (hli:l≠it) :
  Turn P w K (.Tuple es kk tp) (Iel K l) [e,it] e (fun i h=>(∃ old,IsEnum h e it i old)/\h.IsListIter it l i):=by
 @xZ (by simp) (fun i h st b hb=>?_) (fun i h h2 st k=>?_) (fun X hP hw hK hc i pins s σ H I st hg=>?_) (fun A i s Q E st q=>?_)
 ·&⟨⟨old,a⟩,o,c,d1,d2⟩:=st
  rcases List.mem_cons.mp hb with rfl | hq
  ·!⟨_,a,fun v z=>by cases z⟩
  ·rw [List.mem_singleton.mp hq]; !⟨o,c,fun v z=>by rw [d2] at z; cases z⟩
 ·&⟨⟨old,a⟩,b⟩:=st
  !⟨⟨old,k e (by simp) _ a⟩,b.at fun o q=>k it (by simp) o q⟩
 ·subst hP hw hK
  have hq:∃ xs,gH X.K H l xs:=by rcases hg with ⟨xs,_,a,_⟩ | ⟨xs,a,_⟩<;>!⟨xs,a⟩
  &⟨xs,hq⟩:=hq
  &⟨its,rv,p,hz⟩:=I.list hq
  have hl:=rv.length
  @⟨_,_,_,_,_,_,WalksT.enumerate (I.ok.hd hc) e it l hei hle hli its.toArray,⟨st.1,st.2,p.isList⟩,fun b hb=>hb,fun h q=>⟨q.1,q.2.1⟩,fun g=>?_,fun g=>?_⟩
  ·&⟨ys,v,hy,hv⟩:=g
   obtain rfl:=I.sD hy hq
   &⟨u,hu,ru⟩:=rv.get hv
   have hlt:i<ys.length:=(List.getElem?_eq_some_iff.mp hv).1
   @⟨by rw [List.size_toArray,<- hl]; !hlt,fun vals q=>?_⟩
   &⟨t,x,hx,rfl⟩:=q
   have ex:x=u:=by
    have:its[i]? = some x:=¥hx
    rw [hu] at this; !(Option.some.inj this).symm
   subst ex
   !⟨[.int i,v],GL,.cons ⟨t,rfl⟩ (.cons ru .nil),v,rfl,fun zs hzs=>by rw [I.sD hzs hq]; !hv⟩
  ·&⟨ys,hy,e2⟩:=g
   obtain rfl:=I.sD hy hq
   rw [List.size_toArray,<- hl,e2]
 ·&⟨⟨old,a⟩,b⟩:=st
  !wpAny_pyIter_enum a q
section
variable {prog:Program} {w:World} {A:Around} {E:Value->Shared->Prop} {s:Shared}
##VA {it t:Addr} {i:Nat} {items:Array Value} {x:Value} {Q:Value->Shared->Prop} (hit:s.heap.IsTupleIter it t i) (ht:s.heap.IsTuple t items) (hx:items[i]? = some x)
  (hQ:∀ h',h'.IsTupleIter it t (i+1)->Heap.SameBut it s.heap h'->Q x { s with heap:=h' }):wpAny (model prog w) A (Builtin.SmallTypes.nextOf (.ref it)) Q E s:=by
 &⟨⟨ol,hol,_,nl,hdl⟩,o,ho,hc,hd⟩:=And.intro ht hit
 @wpAny_bind (m:=callSpecial? _ _) (wpAny_callSpecial?_slot hit.typeIs F.slot_tuple_iterator_next (wpAny_call_entry F.slot_tuple_iterator_next hit.typeIs F.entry_tuple_iterator_next ?_ (F.args_tuple_iterator_next_1 _)))
 @wpAny_bind (m:=field _ 0) (wpAny_field ho hd (x:=.ref t) rfl ?_)
 show wpAny _ _ (if false=true then _ else _) _ _ s
 rw [if_neg Bool.false_ne_true]
 @wpAny_bind (m:=field _ 1) (wpAny_field ho hd (x:=.int i 0) rfl (wpAny_bind (m:=seqItems? _) (wpAny_seqItems hol hdl ?_)))
 simp only [hx,Int.toNat_natCast]
 @wpAny_bind (wpAny_setField ho hd (by simp) (wpAny_pure ⟨x,rfl,wpAny_pure (hQ _ ⟨_,Heap.get?_update_self _ ho (Obj.isFreed_of_fields (Obj.data_mapFields hd _)),(Obj.cls_mapFields ..).trans hc,?_⟩ (Heap.SameBut.update ..))⟩))
 rw [Obj.data_mapFields hd]
 simp [rawInt]
##OZ {it t:Addr} {i:Nat} {items:Array Value} {Q:Value->Shared->Prop} (hh:A.handled=none) (hit:s.heap.IsTupleIter it t i) (ht:s.heap.IsTuple t items) (hx:items[i]? = none)
  (hE:∀ h' e,Heap.ExtBut it s.heap h'->(∃ o,h'.get? e=some o/\o.cls=.type "StopIteration")->E (.ref e) { s with heap:=h' }):wpAny (model prog w) A (Builtin.SmallTypes.nextOf (.ref it)) Q E s:=by
 &⟨⟨ol,hol,_,nl,hdl⟩,o,ho,hc,hd⟩:=And.intro ht hit
 @wpAny_bind (m:=callSpecial? _ _) (wpAny_callSpecial?_slot hit.typeIs F.slot_tuple_iterator_next (wpAny_call_entry F.slot_tuple_iterator_next hit.typeIs F.entry_tuple_iterator_next ?_ (F.args_tuple_iterator_next_1 _)))
 @wpAny_bind (m:=field _ 0) (wpAny_field ho hd (x:=.ref t) rfl ?_)
 show wpAny _ _ (if false=true then _ else _) _ _ s
 rw [if_neg Bool.false_ne_true]
 @wpAny_bind (m:=field _ 1) (wpAny_field ho hd (x:=.int i 0) rfl (wpAny_bind (m:=seqItems? _) (wpAny_seqItems hol hdl ?_)))
 simp only [hx,Int.toNat_natCast]
 @wpAny_bind (wpAny_rule (wpAny_bind (m:=setField _ _ _) (wpAny_setField ho hd (by simp) ?_)))
 have hh2:A.in1.handled=none:=hh
 wp_walk
 ~raiseNew
 apply wpAny_bind
 apply wpAny_handled
 rw [hh2]
 !wpAny_bind (wpAny_pure (wpAny_throw (hE _ _ (((Heap.SameBut.update ..).extBut.push _).push _) ⟨_,Heap.get?_push_size _ rfl,rfl⟩)))
##aCm (hh:A.handled=none) (it t:Addr) (hne:t≠it) (items:Array Value):Draws prog w A it [it,t] items.size (fun i v=>items[i]? = some v) (fun i h=>h.IsTupleIter it t i/\h.IsTuple t items) where
 live:=fun i h st=>by &⟨⟨o,ho,_⟩,_⟩:=st; !⟨o,ho⟩
 frame:=fun i h h' st k=>by
  &⟨⟨o,ho,r⟩,o2,ho2,r2⟩:=st
  !⟨⟨o,k it (by simp) o ho,r⟩,o2,k t (by simp) o2 ho2,r2⟩
 item:=fun i s Q E hi st q=>VA st.1 st.2 (x:=items[i]) (Array.getElem?_eq_getElem hi) fun h' a b=>q _ h' s.toks (Array.getElem?_eq_getElem hi) ⟨a,st.2.extBut b.extBut hne⟩ b
 done:=fun s Q E st q=>OZ hh st.1 st.2 (Array.getElem?_eq_none (Nat.le_refl _)) q
##O0 (l:Addr) (items:Array Value):Meets (Builtin.«enumerate.__new__» ⟨[.type "enumerate",.ref l],[]⟩) (fun _ R s=>s.heap.IsTuple l items /\
  R (.ok (.ret (.ref (s.heap.push { cls:=.type "tuple_iterator",data:=.fields #[.ref l,.int 0 0] }).objs.size))) { s with heap:=(s.heap.push { cls:=.type "tuple_iterator",data:=.fields #[.ref l,.int 0 0] }).push { cls:=.type "enumerate",data:=.fields #[.none,.bool false,.ref s.heap.objs.size,rawInt 0,.none,.none] } }):=by
 @.of_wp fun p0 w0 A0 R0 s h=>?_
 &⟨hl,h⟩:=h
 &⟨hp0,g0,d,tk,os⟩:=s
 have hsub:=sub_enumerate
 wp_walk using wpAny_pyIter_tuple hl
 @wpAny_stack_any fun _=>wpAny_pure ?_
 split<;>first
  | (rename_i c _ _ _ _ _; cases (c == Value.type "enumerate")<;>(wp_walk using wpAny_pyIter_tuple hl; !⟨_,rfl,h⟩))
  | (wp_walk using wpAny_pyIter_tuple hl; !⟨_,rfl,h⟩)
##JM {l:Addr} {items:Array Value} {Q:Value->Shared->Prop} (hT:s.heap.IsTuple l items)
  (h:∀ h',IsEnum h' (s.heap.objs.size+1) s.heap.objs.size 0 .none->h'.IsTupleIter s.heap.objs.size l 0->(∀ b o,s.heap.get? b=some o->h'.get? b=some o)->Q (.ref (s.heap.objs.size+1)) { s with heap:=h' }):wpAny (model prog w) A (call (.type "enumerate") [.ref l]) Q E s:=by
 @callType_new F.called_enumerate § (F.typeCall_enumerate_1 _) (F.newCall_enumerate_1 _) (fun obj=>F.args_object_init_2 obj _) F.entry_enumerate_new (O0 l items) ⟨hT,?_⟩
 generalize hh1:s.heap.push { cls:=.type "tuple_iterator",data:=.fields #[.ref l,.int 0 0] }=h1
 have e1:h1.objs.size=s.heap.objs.size+1:=by rw [<- hh1,Heap.size_push]
 have g1:h1.get? s.heap.objs.size=some { cls:=.type "tuple_iterator",data:=.fields #[.ref l,.int 0 0] }:=by rw [<- hh1]; !Heap.get?_push_size _ rfl
 have k1:∀ b o,s.heap.get? b=some o->h1.get? b=some o:=fun b o e=>by rw [<- hh1]; !Heap.get?_push_of_some _ e
 generalize hh2:h1.push { cls:=.type "enumerate",data:=.fields #[.none,.bool false,.ref s.heap.objs.size,rawInt 0,.none,.none] }=h2
 have g2:h2.get? h1.objs.size=some { cls:=.type "enumerate",data:=.fields #[.none,.bool false,.ref s.heap.objs.size,rawInt 0,.none,.none] }:=by rw [<- hh2]; !Heap.get?_push_size _ rfl
 have k2:∀ b o,h1.get? b=some o->h2.get? b=some o:=fun b o e=>by rw [<- hh2]; !Heap.get?_push_of_some _ e
 @⟨⟨_,g2,rfl⟩,?_⟩
 rw [e1] at g2 ⊢
 !h h2 g2 ⟨_,k2 _ _ g1,rfl,rfl⟩ fun b o e=>k2 b o (k1 b o e)
end
##JN {P:Program} {w:World} {K:PySem.W.Frag} {es:List Expr} {kk:Nat} {tp:Pos} {e it l:Addr} (hei:e≠it) (hle:l≠e) (hli:l≠it) :
  Turn P w K (.Tuple es kk tp) (Iet K l) [e,it] e (fun i h=>(∃ old,IsEnum h e it i old)/\h.IsTupleIter it l i):=by
 @xZ (by simp) (fun i h st b hb=>?_) (fun i h h2 st k=>?_) (fun X hP hw hK hc i pins s σ H I st hg=>?_) (fun A i s Q E st q=>?_)
 ·&⟨⟨old,a⟩,o,c,d1,d2⟩:=st
  rcases List.mem_cons.mp hb with rfl | hq
  ·!⟨_,a,fun v z=>by cases z⟩
  ·rw [List.mem_singleton.mp hq]; !⟨o,c,fun v z=>by rw [d2] at z; cases z⟩
 ·&⟨⟨old,a⟩,o,b,r⟩:=st
  !⟨⟨old,k e (by simp) _ a⟩,o,k it (by simp) o b,r⟩
 ·subst hP hw hK
  have hq:∃ xs,gA X.K H l xs:=by rcases hg with ⟨xs,_,a,_⟩ | ⟨xs,a,_⟩<;>!⟨xs,a⟩
  &⟨xs,hq⟩:=hq
  &⟨its,rv,p,hz⟩:=I.tuple hq
  have hl:=rv.length
  have D:Draws X.prog X.w X.A.in1 it [it,l] its.toArray.size (fun i v=>its.toArray[i]? = some v) (fun i h=>h.IsTupleIter it l i/\h.IsTuple l its.toArray):=aCm (show X.A.in1.handled=none from I.ok.hd hc) it l hli its.toArray
  have hef:e∉[it,l]:=fun z=>by
   rcases List.mem_cons.mp z with z1 | z1
   ·!hei z1
   ·!hle (List.mem_singleton.mp z1).symm
  @⟨_,_,_,_,_,_,WalksT.enumerateD D e hei hef (by simp),⟨st.1,st.2,p⟩,fun b hb=>hb,fun h q=>⟨q.1,q.2.1⟩,fun g=>?_,fun g=>?_⟩
  ·&⟨ys,v,hy,hv⟩:=g
   obtain rfl:=I.mJ hy hq
   &⟨u,hu,ru⟩:=rv.get hv
   have hlt:i<ys.length:=(List.getElem?_eq_some_iff.mp hv).1
   @⟨by rw [List.size_toArray,<- hl]; !hlt,fun vals q=>?_⟩
   &⟨t,x,hx,rfl⟩:=q
   have ex:x=u:=by
    have:its[i]? = some x:=¥hx
    rw [hu] at this; !(Option.some.inj this).symm
   subst ex
   !⟨[.int i,v],GL,.cons ⟨t,rfl⟩ (.cons ru .nil),v,rfl,fun zs hzs=>by rw [I.mJ hzs hq]; !hv⟩
  ·&⟨ys,hy,e2⟩:=g
   obtain rfl:=I.mJ hy hq
   rw [List.size_toArray,<- hl,e2]
 ·&⟨⟨old,a⟩,b⟩:=st
  !wpAny_pyIter_enum a q
section
variable {X:Cx} {es:List Expr} {kk:Nat} {tp:Pos}
##Z1 {a:Expr} {ta:TA} {p pos:Pos} (hg:Gl X "enumerate") (hm:X.mg "enumerate" = none) (ha:PA X [a] ta) (hs:starEach [a] X.env=[(false,eval a X.env)]:=by rfl) :
  PI X (.Tuple es kk tp) (.Call (.Name "enumerate" p) [a] [] pos) (fun σ H R=>ta σ H fun vs H1=>∃ l,vs=[.ref l]/\(((∃ xs,gH X.K H1 l xs)/\R (Iel X.K l) H1)\/((∃ xs,gA X.K H1 l xs)/\R (Iet X.K l) H1))):=by
 intro pins s σ H R I h
 @Call_ (qP I hg hm boot_enumerate (PyProof.Rows.callWith_type1 (dN (ha pos pins s σ H _ I h) fun us s1 ⟨vs,H1,I1,r1,q1⟩=>?_) hs rfl))
 &⟨l,e,q⟩:=q1
 subst e
 &⟨u,rfl,ru⟩:=vals1 r1
 cases ru
 have fo:∀ b∈[s1.heap.objs.size+1,s1.heap.objs.size],qQ X pins H1 b:=fun b hb=>by
  have hle:s1.heap.objs.size<=b:=by
   simp only [List.mem_cons,or_false,List.not_mem_nil] at hb
   rcases hb with rfl | rfl
   ·!Nat.le_succ _
   ·!Nat.le_refl _
  !I1.IV hle (I1.hok.fresh hle)
 rcases q with ⟨⟨xs,hq⟩,q⟩ | ⟨⟨xs,hq⟩,q⟩
 ·&⟨its,rv,pl,hz⟩:=I1.list hq
  have hlt:l<s1.heap.objs.size:=by &⟨o,n,e,_⟩:=pl; !Heap.lt_size e
  @call_enumerate_list pl.isList fun h' he hi hsz hk=>wpAny_pyIter_enum he ?_
  !⟨s1.heap.objs.size+1,_,_,_,H1,rfl,I1.kept (t':=s1.toks) hk,JL (Nat.succ_ne_self _) (Nat.ne_of_lt (Nat.lt_succ_of_lt hlt)) (Nat.ne_of_lt hlt),⟨⟨_,he⟩,hi⟩,fo,q⟩
 ·&⟨its,rv,pl,hz⟩:=I1.tuple hq
  have hlt:l<s1.heap.objs.size:=pl.lt
  @JM (items:=its.toArray) pl fun h' he hi hk=>wpAny_pyIter_enum he ?_
  !⟨s1.heap.objs.size+1,_,_,_,H1,rfl,I1.kept (t':=s1.toks) hk,JN (Nat.succ_ne_self _) (Nat.ne_of_lt (Nat.lt_succ_of_lt hlt)) (Nat.ne_of_lt hlt),⟨⟨_,he⟩,hi⟩,fo,q⟩
def uV (ds:List D):List D:=ds.zipIdx.map fun p=>.tup [.int (p.2:Int),p.1]
##BW {ds:List D} {i:Nat} {d:D} (h:(uV ds)[i]? = some d):∃ d0,ds[i]? = some d0/\d=.tup [.int (i:Int),d0]:=by
 ~uV at h
 rw [List.getElem?_map,List.getElem?_zipIdx] at h
 cases q:ds[i]? with
 | none=>rw [q] at h; cases h
 | some d0 =>
  rw [q] at h
  simp at h
  !⟨d0,rfl,h.symm⟩
##MS {K:PySem.W.Frag} {S:Addr->Prop} {H:Hp} {T:Addr} {x y:V} {dx dy:D} (fr:H T=none) (hx:Dn K S H dx x) (hy:Dn K S H dy y):Dn K S (upd H T (.tup [x,y])) (.tup [dx,dy]) (.ref T):=by
 simp only [Dn]
 !⟨T,[x,y],rfl,bD,bC.fits (.same (aX fr)) _ _ (bC.cons hx (bC.one hy))⟩
##O1 {K:PySem.W.Frag} {a:Addr} {ds:List D}:Wlk K (Iel K a) (uV ds) [(.lst ds,.ref a)] where
 go:=fun S H fc hg i d e=>by
  have h:=hg _ (List.mem_singleton.mpr rfl)
  simp only [Dn] at h
  &⟨b,xs,eb,hb,sb,dn⟩:=h
  injection eb with eb
  subst eb
  &⟨d0,e0,rfl⟩:=BW e
  &⟨v,ev,dv⟩:=dn.get e0
  @⟨⟨xs,v,gH.of hb,ev⟩,fun x H' y=>?_⟩
  &⟨T,vs,rfl,fr,rfl,v',rfl,hy⟩:=y
  have ex:=hy xs (gH.of hb)
  rw [ev] at ex
  cases ex
  !⟨aX fr,MS fr (by simp only [Dn]) dv⟩
 stop:=fun S H hg i hi=>by
  have h:=hg _ (List.mem_singleton.mpr rfl)
  simp only [Dn] at h
  &⟨b,xs,eb,hb,sb,dn⟩:=h
  injection eb with eb
  subst eb
  !⟨xs,gH.of hb,by rw [<- dn.len,<- hi]; simp [uV]⟩
##O2 {K:PySem.W.Frag} {a:Addr} {ds:List D}:Wlk K (Iet K a) (uV ds) [(.tup ds,.ref a)] where
 go:=fun S H fc hg i d e=>by
  have h:=hg _ (List.mem_singleton.mpr rfl)
  simp only [Dn] at h
  &⟨b,xs,eb,hb,dn⟩:=h
  injection eb with eb
  subst eb
  &⟨d0,e0,rfl⟩:=BW e
  &⟨v,ev,dv⟩:=dn.get e0
  @⟨⟨xs,v,(gA.of hb),ev⟩,fun x H' y=>?_⟩
  &⟨T,vs,rfl,fr,rfl,v',rfl,hy⟩:=y
  have ex:=hy xs (gA.of hb)
  rw [ev] at ex
  cases ex
  !⟨aX fr,MS fr (by simp only [Dn]) dv⟩
 stop:=fun S H hg i hi=>by
  have h:=hg _ (List.mem_singleton.mpr rfl)
  simp only [Dn] at h
  &⟨b,xs,eb,hb,dn⟩:=h
  injection eb with eb
  subst eb
  !⟨xs,(gA.of hb),by rw [<- dn.len,<- hi]; simp [uV]⟩
def aF1 (t:WA):WI:=fun ρ Q=>t ρ fun ds=>match ds with
 | [.lst es]=>Q (uV es)
 | [.tup es]=>Q (uV es)
 | _=>False
##JO {a:Expr} {t:WA} {p pos:Pos} (hm:X.mg "enumerate" = none) (ha:zJ X [a] t) (hg:Gl X "enumerate" := by rfl) (hs:starEach [a] X.env=[(false,eval a X.env)]:=by rfl):UY X (.Tuple es kk tp) (.Call (.Name "enumerate" p) [a] [] pos) (aF1 t) :=
 OU (Z1 hg hm ha hs) fun σ H R aKz=>by
  &⟨S,ρ,Q3,fc,sl,ht,k⟩:=aKz
  @⟨S,ρ,_,fc,sl,ht,fun vs H1 ds s1 d1 q1=>?_⟩
  split at q1
  ·&⟨v,r,rfl,h1,h2⟩:=d1.bV
   simp only [bC] at h2
   subst h2
   have h1':=h1
   simp only [Dn] at h1
   &⟨l,xs,rfl,hl,sl',da⟩:=h1
   !⟨l,rfl,.inl ⟨⟨xs,gH.of hl⟩,k _ H1 _ [(_,.ref l)] s1 (fun g hg=>by cases List.mem_singleton.mp hg; !h1') O1 q1⟩⟩
  ·&⟨v,r,rfl,h1,h2⟩:=d1.bV
   simp only [bC] at h2
   subst h2
   have h1':=h1
   simp only [Dn] at h1
   &⟨l,xs,rfl,hl,da⟩:=h1
   !⟨l,rfl,.inr ⟨⟨xs,(gA.of hl)⟩,k _ H1 _ [(_,.ref l)] s1 (fun g hg=>by cases List.mem_singleton.mp hg; !h1') O2 q1⟩⟩
  ·!q1.elim
end
section
variable {X:Cx} {a b:Expr} {pos:Pos} {ta tb:WE}
##Z2:i6 X (binaryOp .Mult) (rI IntMulOk fun i j=>.int (i*j)):=opI fun _ _ _ _ _ _ _ hc q=>mul_int q hc
def aF2:F2:=OR IntMulOk fun i j=>.int (i*j)
##aF3 (ha:cU X a ta) (hb:cU X b tb):cU X (.BinOp a .Mult b pos) (iM aF2 ta tb):=W7 Z2 oJ ha hb
end
##Z3 {i j:Int} {m n:Nat} (hi:i.natAbs<2 ^ m) (hj:j.natAbs<2 ^ n) (h:m+n<=134217728):IntMulOk i j:=by
 !mulOk_of_bits (intBits_le hi) (intBits_le hj) h
section
variable {X:Cx}
def aPp (t:WE):WT:=fun ρ Q=>t ρ fun d=>match d with
 | .lst ds=>Q (!ds.isEmpty)
 | .tup ds=>Q (!ds.isEmpty)
 | _=>False
##bC.empty {K:PySem.W.Frag} {S:Addr->Prop} {H:Hp} {ds:List D} {xs:List V} (h:bC K S H ds xs):ds.isEmpty=xs.isEmpty:=by
 have:=h.len
 cases ds<;>cases xs<;>simp at this ⊢
def aF4:List V->Hp->VK->Prop:=fun xs H Q=>∃ (a:Addr) (ns:List Int),xs=[.ref a]/\H a=some (.lst (ns.map V.int))/\Q (.int ns.sum) H
##O5 (hc:X.calm=true):jI X (.builtin "sum") aF4:=by
 intro pins s σ H xs us Q I r h
 &⟨a,ns,rfl,ha,q⟩:=h
 &⟨u,rfl,ru⟩:=vals1 r
 cases ru
 &⟨its,rv,p,hz⟩:=I.list (gH.of ha)
 have hi:=intsAre_of rv
 &⟨zs,ez⟩:=hi.allInts.items
 have en:zs.toList.map (·.1)=ns:=by
  rw [<- nums_intItems,<- ez]
  !hi.numsOf
 have ev:preSum (numAt zs) zs.size=ns.sum:=by rw [preSum_eq,List.take_of_length_le (by simp),en]
 @sum_intListG (I.ok.hd hc) (ez▸p.isList) fun h' tk t' hk=>⟨.int ns.sum,H,I.kept hk,⟨t',by rw [ev]⟩,q⟩
def sumF:F1
 | [.lst ds],Q=>(match intsOf ds with | some ns=>Q (.int ns.sum) | none=>False)
 | _,_=>False
##O6 {ns:List Int} {Q:D->Prop}:sumF [.lst (ns.map D.int)] Q=Q (.int ns.sum):=by
 show (match intsOf (ns.map D.int) with | some ns=>Q (.int ns.sum) | none=>False)=_
 rw [eK]
##aCn {K:PySem.W.Frag}:C3 K aF4 sumF:=by
 intro S H xs ds Q3 Q fc hd hf k
 match ds,hf with
 | [.lst es],hf =>
  &⟨v,r,rfl,h1,h2⟩:=hd.bV
  simp only [bC] at h2
  subst h2
  simp only [Dn] at h1
  &⟨a,ys,rfl,ha,sa,da⟩:=h1
  have hf2:(match intsOf es with | some ns=>Q3 (.int ns.sum) | none=>False):=hf
  clear hf
  cases q:intsOf es with
  | none=>rw [q] at hf2; !hf2.elim
  | some ns =>
   rw [q] at hf2
   have e:=uA q
   subst e
   have e2:=bC.ints.mp da
   subst e2
   !⟨a,ns,rfl,ha,k _ H _ (Same.refl H) (by simp only [Dn]) hf2⟩
##aLA {p pos:Pos} {e:Expr} {t:WA} (hc:X.calm=true) (hm:X.mg "sum" = none) (ha:zJ X [e] t) (hg:Gl X "sum" := by rfl)
  (he:starEach [e] X.env=(false,eval e X.env)::starEach [] X.env:=by rfl):cU X (.Call (.Name "sum" p) [e] [] pos) (OT sumF t):=D0 (O5 hc) aCn PyProof.Rows.boot_sum hg hm ha § § he (by rfl)
abbrev WO:=bR->(Option Int->Prop)->Prop
def aF5 (K:PySem.W.Frag) (t:WO):TO:=fun σ H Q=>∃ (S:Addr->Prop) (ρ:bR) (Q3:Option Int->Prop),(∀ a,H a=none->S a)/\Sl K S H ρ σ/\t ρ Q3 /\ ∀ o H',Same H H'->Q3 o->Q o H'
def PO3 (X:Cx) (e:Option Expr) (t:WO):Prop:=PO X e (aF5 X.K t)
def Z4:WO:=fun _ Q=>Q none
def aF6 (t:WE):WO:=fun ρ Q=>t ρ fun d=>match d with
 | .int i=>Q (some i)
 | _=>False
##aLB:PO3 X none Z4:=fun pins s σ H Q I aLC=>by &⟨S,ρ,Q3,fc,sl,ht,k⟩:=aLC; !Y3 pins s σ H Q I (k none H (Same.refl H) ht)
##po3 {e:Expr} {t:WE} (h:cU X e t):PO3 X (some e) (aF6 t):=fun pins s σ H Q I aLD=>by
 &⟨S,ρ,Q3,fc,sl,ht,k⟩:=aLD
 @Y4 h pins s σ H Q I ⟨S,ρ,_,fc,sl,ht,fun v H1 d s1 d1 q1=>?_⟩
 cases d with
 | int i=>simp only [Dn] at d1; !⟨i,d1,k _ H1 s1 q1⟩
 | _=>!q1.elim
def cutD (xs:List D) (lo hi:Option Int):List D:=(xs.drop (HT.iC xs.length 0 lo)).take (HT.iC xs.length xs.length hi - HT.iC xs.length 0 lo)
##bC.cut {K:PySem.W.Frag} {S:Addr->Prop} {H:Hp} {ds:List D} {xs:List V} {lo hi:Option Int} (h:bC K S H ds xs):bC K S H (cutD ds lo hi) (FU xs lo hi):=by
 ~cutD FU
 rw [h.len]
 !(h.drop _).take _
##VB {prog:Program} {w:World} {A:Around} {E:Value->Shared->Prop} {s:Shared} {t sl:Addr} {items:Array Value} {vl vu:Value} {lo hi:Option Int} {Q:Value->Shared->Prop} (ht:IsTup s.heap t items) (hs:s.heap.IsSliceOf sl vl vu .none) (pl:IsPart vl lo) (pu:IsPart vu hi)
  (h0:HT.iC items.size 0 lo=0) (h1:HT.iC items.size items.size hi=items.size) (h:Q (.ref t) s):wpAny (model prog w) A (getItem (.ref t) (.ref sl)) Q E s:=by
 have hT:s.TypeIs (.ref sl) "slice" := by &⟨o,a,b,_⟩:=hs; !⟨o,a,b⟩
 ~getItem
 try with_reducible @wpAny_holding ?_
 first | @wpAny_bind (wpAny_pure ?_) | skip
 apply wpAny_bind
 @wpAny_sequenceKey ht.typeIs § (wpAny_bind (wpAny_callSpecial?_slot ht.typeIs PyProof.Rows.slot_tuple_getitem (wpAny_call_entry PyProof.Rows.slot_tuple_getitem ht.typeIs entry_tuple_getitem ?_ (args_tuple_getitem _ _))))
 @wpAny_bind (m:=Builtin.Tuple.tupleItemsOf _) (tupleItemsOf_ ht (wpAny_bind (wpAny_typeOf hT ?_)))
 rw [if_pos §]
 @wpAny_bind (HT.mK (n:=items.size) hs pl pu ?_)
 rw [h0,h1]
 show wpAny _ _ (if ((((0:Nat):Int) == 0)&&((1:Int) == 1)&&((items.size - 0) == items.size))=true then _ else _) _ _ s
 rw [if_pos (by simp)]
 @wpAny_bind (m:=Builtin.Tuple.tupleIsExact _) (wpAny_bind (wpAny_typeOf ht.typeIs (wpAny_pure ?_)))
 show wpAny _ _ (if true=true then _ else _) _ _ s
 rw [if_pos rfl]
 !wpAny_bind (wpAny_rule (wpAny_pure ⟨_,rfl,wpAny_pure h⟩))
def aLE (K:PySem.W.Frag):V->Option Int->Option Int->Hp->VK->Prop:=fun x lo hi H Q=>∃ a xs,x=.ref a/\gA K H a xs/\(HT.iC xs.length 0 lo=0/\HT.iC xs.length xs.length hi=xs.length)/\Q (.ref a) H
##Z5:SlR X (aLE X.K):=by
 intro pins s σ H x v vl vu lo hi sl Q I rx hs pl pu h
 &⟨a,xs,rfl,hx,hw,q⟩:=h
 cases rx
 &⟨its,r,ht,hz⟩:=I.tuple hx
 have hlen:its.toArray.size=xs.length:=by rw [List.size_toArray]; !r.length.symm
 !⟨"tuple",_,PyProof.Rows.slot_tuple_getitem.lookup,ht.typeIs,VB ht hs pl pu (by rw [hlen]; !hw.1) (by rw [hlen]; !hw.2) ⟨.ref a,H,I,rfl,q⟩⟩
def wSl (te:WE) (tl th:WO):WE:=fun ρ Q=>te ρ fun d=>tl ρ fun lo=>th ρ fun hi=>match d with
 | .lst ds=>Q (.lst (cutD ds lo hi))
 | .tup ds=>Q (.tup (cutD ds lo hi))
 | _=>False
##sl3 {e:Expr} {lo hi:Option Expr} {p2 pos:Pos} {te:WE} {tl th:WO} (he:cU X e te) (hl:PO3 X lo tl) (hh:PO3 X hi th):cU X (.Subscript e (.Slice lo hi none p2) pos) (wSl te tl th) :=
 imp (T6 (Y8.or (aCL.or Z5)) he hl hh) fun σ H Q aLG=>by
  &⟨S,ρ,Q3,fc,sl,ht,k⟩:=aLG
  @⟨S,ρ,_,fc,sl,ht,fun v H1 d s1 d1 q1=>?_⟩
  @⟨S,ρ,_,bP fc s1,Sl.fits (.same s1) sl,q1,fun o H2 s2 q2=>?_⟩
  @⟨S,ρ,_,bP fc (s1.trans s2),Sl.fits (.same (s1.trans s2)) sl,q2,fun o2 H3 s3 q3=>?_⟩
  have d3:=Dn.fits (.same (s2.trans s3)) _ _ d1
  have sa:=(s1.trans s2).trans s3
  cases d with
  | lst ds =>
   simp only [Dn] at d3
   &⟨a,xs,rfl,ha,sa',da⟩:=d3
   @.inl ⟨a,xs,rfl,gH.of ha,fun p hp=>k _ _ _ (sa.trans (aX hp)) ?_ q3⟩
   simp only [Dn]
   !⟨p,_,rfl,bD,bP fc sa p hp,bC.fits (.same (aX hp)) _ _ da.cut⟩
  | tup ds =>
   simp only [Dn] at d3
   &⟨a,xs,rfl,ha,da⟩:=d3
   have hl:=da.len
   by_cases hw:HT.iC xs.length 0 o=0/\HT.iC xs.length xs.length o2=xs.length
   ·@.inr (.inr ⟨a,xs,rfl,(gA.of ha),hw,k _ _ _ sa ?_ q3⟩)
    have e:cutD ds o o2=ds:=by
     ~cutD
     rw [hl,hw.1,hw.2,List.drop_zero,Nat.sub_zero,List.take_of_length_le (Nat.le_of_eq hl)]
    rw [e]
    simp only [Dn]
    !⟨a,xs,rfl,ha,da⟩
   ·@.inr (.inl ⟨a,xs,rfl,(gA.of ha),hw,fun p hp=>k _ _ _ (sa.trans (aX hp)) ?_ q3⟩)
    simp only [Dn]
    !⟨p,_,rfl,bD,bC.fits (.same (aX hp)) _ _ da.cut⟩
  | _=>!q3.elim
end
section
variable {X:Cx} {tg:Expr}
end
end L3
end
section
namespace L4
open PySem PySem.Spec PyProof.Rows L2 L3
def wE (f:EF):WE:=fun ρ Q=>∃ d,f ρ=some d/\Q d
def wT (f:TF):WT:=fun ρ Q=>∃ d,f ρ=some d/\Q d
def wA (f:AF):WA:=fun ρ Q=>∃ d,f ρ=some d/\Q d
def wI (f:AF):WI:=fun ρ Q=>∃ d,f ρ=some d/\Q d
def wO (f:OF):WO:=fun ρ Q=>∃ d,f ρ=some d/\Q d
def wX (f:XF):WX:=fun ρ Q=>∃ p,f ρ=some p/\Q p.1 p.2
def wS (f:SF):WS:=fun E ρ=>match f ρ with
 | .nx ρ'=>E.nx ρ'
 | .rt d=>E.rt d
 | .ex c=>E.ex c
 | .no=>False
def wG (g:K2):WG:=fun d ρ Q=>∃ ρ',g d ρ=some ρ'/\Q ρ'
def wGE (g:HU):GE:=fun d ρ Q=>∃ ρ',g d ρ=some ρ'/\Q ρ'
abbrev bS (X:Cx) (e:Expr) (f:EF):Prop:=cU X e (wE f)
abbrev pL (X:Cx) (e:Expr) (f:EF):Prop:=HN X e (wE f)
abbrev vH (X:Cx) (e:Expr) (f:TF):Prop:=vY X e (wT f)
abbrev BX (X:Cx) (e:Expr) (f:TF):Prop:=Q0 X e (wT f)
abbrev zZ (X:Cx) (es:List Expr) (f:AF):Prop:=zJ X es (wA f)
abbrev Z6 (X:Cx) (tg e:Expr) (f:AF):Prop:=UY X tg e (wI f)
abbrev PO4 (X:Cx) (e:Option Expr) (f:OF):Prop:=PO3 X e (wO f)
abbrev MT (X:Cx) (e:Expr) (f:XF):Prop:=GC X e (wX f)
abbrev tJ (X:Cx) (st:Stmt) (f:SF):Prop:=EM X st (wS f)
abbrev z0 (X:Cx) (st:List Stmt) (f:SF):Prop:=vG X st (wS f)
section
variable {X:Cx}
##cE {e:Expr} {t t':WE} (h:cU X e t) (c:∀ ρ Q,t' ρ Q->t ρ Q):cU X e t':=imp h fun _ _ _ aLI=>by &⟨S,ρ,Q3,fc,sl,ht,k⟩:=aLI; !⟨S,ρ,Q3,fc,sl,c ρ Q3 ht,k⟩
##cF {e:Expr} {t t':WE} (h:HN X e t) (c:∀ ρ Q,t' ρ Q->t ρ Q):HN X e t':=imp h fun _ _ _ aLJ=>by &⟨S,ρ,Q3,fc,sl,ht,k⟩:=aLJ; !⟨S,ρ,Q3,fc,sl,c ρ Q3 ht,k⟩
##cT {e:Expr} {t t':WT} (h:vY X e t) (c:∀ ρ Q,t' ρ Q->t ρ Q):vY X e t':=JH h fun _ _ _ aLK=>by &⟨S,ρ,Q3,fc,sl,ht,k⟩:=aLK; !⟨S,ρ,Q3,fc,sl,c ρ Q3 ht,k⟩
##cW {e:Expr} {t t':WT} (h:Q0 X e t) (c:∀ ρ Q,t' ρ Q->t ρ Q):Q0 X e t':=aCW h fun _ _ _ aLL=>by &⟨S,ρ,Q3,fc,sl,ht,k⟩:=aLL; !⟨S,ρ,Q3,fc,sl,c ρ Q3 ht,k⟩
##cA {e:List Expr} {t t':WA} (h:zJ X e t) (c:∀ ρ Q,t' ρ Q->t ρ Q):zJ X e t':=UP h fun _ _ _ aLM=>by &⟨S,ρ,Q3,fc,sl,ht,k⟩:=aLM; !⟨S,ρ,Q3,fc,sl,c ρ Q3 ht,k⟩
##cI {tg e:Expr} {t t':WI} (h:UY X tg e t) (c:∀ ρ Q,t' ρ Q->t ρ Q):UY X tg e t':=OU h fun _ _ _ aLN=>by &⟨S,ρ,Q3,fc,sl,ht,k⟩:=aLN; !⟨S,ρ,Q3,fc,sl,c ρ Q3 ht,k⟩
##cX {e:Expr} {t t':WX} (h:GC X e t) (c:∀ ρ Q,t' ρ Q->t ρ Q):GC X e t':=imp h fun _ _ _ aLO=>by &⟨H₀,S,w,ρ,G,Q3,hl,st,ht,k⟩:=aLO; !⟨H₀,S,w,ρ,G,Q3,hl,st,c ρ Q3 ht,k⟩
##cS {e:Stmt} {t t':WS} (h:EM X e t) (c:∀ E ρ,t' E ρ->t E ρ):EM X e t':=j3 h fun _ _ _ aLP=>by &⟨H₀,S,w,ρ,G,E,hl,st,ht,ok⟩:=aLP; !⟨H₀,S,w,ρ,G,E,hl,st,c E ρ ht,ok⟩
##cSs {e:List Stmt} {t t':WS} (h:vG X e t) (c:∀ E ρ,t' E ρ->t E ρ):vG X e t':=MQ h fun _ _ _ aLQ=>by &⟨H₀,S,w,ρ,G,E,hl,st,ht,ok⟩:=aLQ; !⟨H₀,S,w,ρ,G,E,hl,st,c E ρ ht,ok⟩
##BX.pt {e:Expr} {f:TF} (h:BX X e f):vH X e f:=Q0.pt h
##pL.pe {e:Expr} {f:EF} (h:pL X e f):bS X e f:=HN.pe h
##bnd {α β:Type} {o:Option α} {f:α->Option β} {b:β} (h:o.bind f=some b):∃ a,o=some a/\f a=some b:=by
 cases o with
 | none=>cases h
 | some a=>!⟨a,rfl,h⟩
##tK {α β:Type} {o:Option α} {f:α->β} {b:β} (h:o.map f=some b):∃ a,o=some a/\f a=b:=by
 cases o with
 | none=>cases h
 | some a=>!⟨a,rfl,Option.some.inj h⟩
##x4 (i:Nat) {x:Str} {pos:Pos} (hN:X.N[i]? = some x:=by rfl) (hv:EL X.env.scope x:=by first | !Or.inl rfl | !Or.inr (Or.inl rfl) | !Or.inr (Or.inr rfl)) (hd:(x == ("__debug__" : Str))=false:=by decide)
  (hcd:(x == ("__classdict__" : Str))=false:=by decide):bS X (.Name x pos) (aB i):=cE (x3 i hN hv hd hcd) fun ρ Q aLR=>by
 &⟨d,e,q⟩:=aLR
 ~aB at e
 ~ZF
 cases h:ρ[i]? with
 | none=>rw [h] at e; cases e
 | some o =>
  rw [h] at e
  cases o with
  | none=>cases e
  | some d'=>cases e; !q
##i4 {i:Int} {j pos}:bS X (.Constant (.int i) j pos) (eC (.int i)):=cE i3 fun _ _ aLS=>by &⟨_,e,q⟩:=aLS; cases e; !q
##b4 {b:Bool} {j pos}:bS X (.Constant (.bool b) j pos) (eC (.bl b)):=cE b3 fun _ _ aLT=>by &⟨_,e,q⟩:=aLT; cases e; !q
##s4 {x:Str} {j pos}:bS X (.Constant (.str x) j pos) (eC (.str x)):=cE s3 fun _ _ aLU=>by &⟨_,e,q⟩:=aLU; cases e; !q
##c4 {x:Str} {i:Int} {t:Tok} {pos:Pos} (hm:X.mg x=some (.int i t)) (hg:Gl X x:=by rfl) (hd:(x == ("__debug__" : Str))=false:=by decide):bS X (.Name x pos) (eC (.int i)):=cE (g3 hg hm hd) fun _ _ aLV=>by &⟨_,e,q⟩:=aLV; cases e; !q
def Tells (f:F2) (g:D->D->Option D):Prop:=∀ (x y d:D) (Q:D->Prop),g x y=some d->Q d->f x y Q
##iH {f:F2} {g:D->D->Option D} (h:Tells f g) {fa fb:EF} (ρ:bR) (Q:D->Prop) (w:wE (aC g fa fb) ρ Q):iM f (wE fa) (wE fb) ρ Q:=by
 &⟨d,e,q⟩:=w
 &⟨x,ex,e⟩:=bnd e
 &⟨y,ey,e⟩:=bnd e
 !⟨x,ex,y,ey,h x y d Q e q⟩
##gY {g:Int->Int->D}:Tells (uS g) (HP g):=fun x y d Q e q=>by
 cases x<;>first | (cases e; done) | skip
 all_goals (cases y<;>first | (cases e; done) | skip)
 cases e; !q
##fS {C:Int->Int->Prop} {c:Int->Int->Bool} {g:Int->Int->D} (h:∀ i j,c i j=true->C i j):Tells (OR C g) (lC c g):=fun x y d Q e q=>by
 cases x<;>first | (cases e; done) | skip
 all_goals (cases y<;>first | (cases e; done) | skip)
 rename_i i j
 have e:(if c i j=true then some (g i j) else none)=some d:=e
 by_cases hc:c i j=true
 ·rw [if_pos hc] at e; cases e; !⟨h i j hc,q⟩
 ·rw [if_neg hc] at e; cases e
##szl {n:Nat} {α:Type} {x d:α} {Q:α->Prop} (e:(if n<=uK then some x else none)=some d) (q:Q d):n<=sizeLine/\Q x:=by
 by_cases h:n<=uK
 ·rw [if_pos h] at e; cases e; !⟨by rw [sizeLine_eq]; !h,q⟩
 ·rw [if_neg h] at e; cases e
##O7:Tells aCT bO:=fun x y d Q e q=>by
 cases x<;>first | (cases e; done) | skip
 all_goals (cases y<;>first | (cases e; done) | skip)
 ·cases e; !q
 ·!szl (x:=D.str _) e q
 ·!szl (x:=D.tup _) e q
 ·!szl (x:=D.lst _) e q
##O8:Tells aEn ES:=fun x y d Q e q=>by
 cases x<;>first | (cases e; done) | skip
 all_goals (cases y<;>first | (cases e; done) | skip)
 !szl (x:=D.lst _) e q
##aCp {i j:Int} (h:ER i j=true):IntMulOk i j:=by
 ~ER at h
 simp only [Bool.or_eq_true,decide_eq_true_eq] at h
 rcases h with (h | h) | h
 ·!YV.ok (.inl ⟨by omega,by omega⟩)
 ·!YV.ok (.inr ⟨by omega,by omega⟩)
 ·@Z3 (m:=i.natAbs.log2+1) (n:=j.natAbs.log2+1) ?_ ?_ °
  ·!Nat.lt_log2_self
  ·!Nat.lt_log2_self
section
variable {a b:Expr} {pos:Pos} {fa fb:EF}
##iN (ha:bS X a fa) (hb:bS X b fb):bS X (.BinOp a .Add b pos) (aC bO fa fb):=cE (aJP ha hb) (iH O7)
##Z7 (ha:bS X a fa) (hb:bS X b fb):bS X (.BinOp a .Sub b pos) (aC fE fa fb):=cE (aJL ha hb) (iH gY)
##AA (ha:bS X a fa) (hb:bS X b fb):bS X (.BinOp a .Mult b pos) (aC mulM fa fb):=cE (aF3 ha hb) (iH (fS fun _ _ h=>aCp h))
##lT (ha:bS X a fa) (hb:bS X b fb):bS X (.BinOp a .Mod b pos) (aC dI fa fb):=cE (aJM ha hb) (iH (fS fun _ _ h=>¥h))
##O9 (ha:bS X a fa) (hb:bS X b fb):bS X (.BinOp a .FloorDiv b pos) (aC mX fa fb):=cE (aJN ha hb) (iH (fS fun i j h=>by
 simp only [Bool.and_eq_true,decide_eq_true_eq] at h
 !⟨h.1,by omega⟩))
##aLW (ha:bS X a fa) (hb:bS X b fb):bS X (.BinOp a .Pow b pos) (aC HQ fa fb):=cE (aJO ha hb) (iH (fS fun i j h=>by
 simp only [Bool.and_eq_true,decide_eq_true_eq] at h
 !⟨h.1.1,by omega,h.2⟩))
##aAp (ha:bS X a fa) (hb:bS X b fb):pL X (.BinOp a .Add b pos) (aC ES fa fb):=cF (aEo ha hb) (iH O8)
##tells_eq:Tells ZI kT:=fun x y d Q e q=>by
 cases x<;>first | (cases e; done) | skip
 all_goals (cases y<;>first | (cases e; done) | skip)
 all_goals (cases e; !⟨rfl,q⟩)
##GM:Tells ZJ KU:=fun x y d Q e q=>by
 cases x<;>first | (cases e; done) | skip
 all_goals (cases y<;>first | (cases e; done) | skip)
 all_goals (cases e; !⟨rfl,q⟩)
##ints_of:∀ {ds:List D} {ns:List Int},intsOf ds=some ns->ds=ns.map D.int
 | [],ns,h=>by cases h; rfl
 | d::ds,ns,h=>by
  cases d<;>first | cases h; done | skip
  &⟨m,e,rfl⟩:=tK h
  rw [ints_of e]; rfl
##sO {neg:Bool}:Tells (inF neg) (lY neg):=fun x y d Q e q=>by
 cases x<;>first | (cases e; done) | skip
 all_goals (cases y<;>first | (cases e; done) | skip)
 all_goals
  &⟨ns,e1,rfl⟩:=tK e
  have:=ints_of e1
  subst this
  !⟨BS ns,by rw [BU]; !q⟩
##gt4 (ha:bS X a fa) (hb:bS X b fb):bS X (.Compare a [.Gt] [b] pos) (aC tL fa fb):=cE (gt3 ha hb) (iH gY)
##eq4 (ha:bS X a fa) (hb:bS X b fb):bS X (.Compare a [.Eq] [b] pos) (aC kT fa fb):=cE (aJY ha hb) (iH tells_eq)
##ne4 (ha:bS X a fa) (hb:bS X b fb):bS X (.Compare a [.NotEq] [b] pos) (aC KU fa fb):=cE (aJZ ha hb) (iH GM)
##in4 (ha:bS X a fa) (hb:bS X b fb) (hm:behindInMarks .In b=false:=by with_unfolding_all rfl):bS X (.Compare a [.In] [b] pos) (aC (lY false) fa fb):=cE (in3 ha hb hm) (iH sO)
##aCq (ha:bS X a fa) (hb:bS X b fb) (hm:behindInMarks .NotIn b=false:=by with_unfolding_all rfl):bS X (.Compare a [.NotIn] [b] pos) (aC (lY true) fa fb):=cE (aJ0 ha hb hm) (iH sO)
##p8 {f:F2} {g:D->D->Option D} (h:Tells f g) (hb:∀ x y d,g x y=some d -> ∃ b,d=.bl b) {fa fb:EF} (ρ:bR) (Q:Bool->Prop) (w:wT (tV (aC g fa fb)) ρ Q):nM (iM f (wE fa) (wE fb)) ρ Q:=by
 &⟨b,e,q⟩:=w
 &⟨d,e1,e2⟩:=bnd e
 &⟨x,ex,e1⟩:=bnd e1
 &⟨y,ey,e1⟩:=bnd e1
 &⟨c,rfl⟩:=hb x y d e1
 cases e2
 !⟨x,ex,y,ey,h x y _ _ e1 q⟩
##uB {g:Int->Int->Bool} (x y d:D) (e:HP (fun i j=>.bl (g i j)) x y=some d):∃ b,d=.bl b:=by
 cases x<;>first | (cases e; done) | skip
 all_goals (cases y<;>first | (cases e; done) | skip)
 cases e; !⟨_,rfl⟩
##aF7 (x y d:D) (e:kT x y=some d):∃ b,d=.bl b:=by &⟨b,_,rfl⟩:=tK e; !⟨_,rfl⟩
##aF8 (x y d:D) (e:KU x y=some d):∃ b,d=.bl b:=by &⟨b,_,rfl⟩:=tK e; !⟨_,rfl⟩
##aAq {neg:Bool} (x y d:D) (e:lY neg x y=some d):∃ b,d=.bl b:=by
 cases x<;>first | (cases e; done) | skip
 all_goals (cases y<;>first | (cases e; done) | skip)
 all_goals (&⟨b,_,rfl⟩:=tK e; !⟨_,rfl⟩)
##aLX (ha:bS X a fa) (hb:bS X b fb):vH X (.Compare a [.Lt] [b] pos) (tV (aC W2 fa fb)):=cT (aJ1 ha hb) (p8 gY uB)
##aLY (ha:bS X a fa) (hb:bS X b fb):vH X (.Compare a [.LtE] [b] pos) (tV (aC W9 fa fb)):=cT (aJ2 ha hb) (p8 gY uB)
##D4 (ha:bS X a fa) (hb:bS X b fb):vH X (.Compare a [.Gt] [b] pos) (tV (aC tL fa fb)):=cT (aJ3 ha hb) (p8 gY uB)
##aF9 (ha:bS X a fa) (hb:bS X b fb):vH X (.Compare a [.GtE] [b] pos) (tV (aC geM fa fb)):=cT (aJ4 ha hb) (p8 gY uB)
##x5 (ha:bS X a fa) (hb:bS X b fb):vH X (.Compare a [.Eq] [b] pos) (tV (aC kT fa fb)):=cT (aEr ha hb) (p8 tells_eq aF7)
##aLZ (ha:bS X a fa) (hb:bS X b fb):vH X (.Compare a [.NotEq] [b] pos) (tV (aC KU fa fb)):=cT (aEs ha hb) (p8 GM aF8)
##aFa (ha:bS X a fa) (hb:bS X b fb) (hm:behindInMarks .In b=false:=by with_unfolding_all rfl):vH X (.Compare a [.In] [b] pos) (tV (aC (lY false) fa fb)):=cT (aJ5 ha hb hm) (p8 sO aAq)
##MU (ha:bS X a fa) (hb:bS X b fb) (hm:behindInMarks .NotIn b=false:=by with_unfolding_all rfl):vH X (.Compare a [.NotIn] [b] pos) (tV (aC (lY true) fa fb)):=cT (aEt ha hb hm) (p8 sO aAq)
end
def O4 (K:PySem.W.Frag) (r:R2) (g:D->D->Option D):Prop:=∃ f,O3 K r f/\Tells f g /\ ∀ x y d,g x y=some d -> ∃ b,d=.bl b
##VC {K:PySem.W.Frag}:O4 K (OD fun i j=>.bl (decide (i<j))) W2:=⟨_,qS,gY,uB⟩
##VD {K:PySem.W.Frag}:O4 K (OD fun i j=>.bl (decide (i<=j))) W9:=⟨_,qS,gY,uB⟩
##MV {f g:F2} {p q:D->D->Option D} (hf:Tells f p) (hg:Tells g q) {fa fb fc:EF} (ρ:bR) (Q:D->Prop) (w:wE (kF p q fa fb fc) ρ Q):DZ f g (wE fa) (wE fb) (wE fc) ρ Q:=by
 &⟨d,e,k⟩:=w
 &⟨x,ex,e⟩:=bnd e
 &⟨y,ey,e⟩:=bnd e
 &⟨z,ez,e⟩:=bnd e
 &⟨b,eb,e5⟩:=bnd e
 @⟨x,ex,y,ey,hf x y z _ ez ?_⟩
 clear e
 cases z<;>first | cases eb; done | skip
 cases eb
 cases b with
 | true =>
  rw [if_pos rfl] at e5
  &⟨u,eu,e⟩:=bnd e5
  !⟨u,eu,hg y u d Q e k⟩
 | false =>
  rw [if_neg Bool.false_ne_true] at e5
  cases e5
  !k
##aCr {a b c:Expr} {op op':CmpOp} {pos:Pos} {r r':R2} {p q:D->D->Option D} {fa fb fc:EF} (ho:i6 X (compareOp op) r) (ho':i6 X (compareOp op') r') (h1:O4 X.K r p) (h2:O4 X.K r' q) (ha:bS X a fa) (hb:bS X b fb) (hc:bS X c fc)
  (hm:lastMarks [op,op'] [b,c]=false:=by with_unfolding_all rfl):bS X (.Compare a [op,op'] [b,c] pos) (kF p q fa fb fc):=by
 &⟨f,o1,t1,_⟩:=h1
 &⟨g,o2,t2,_⟩:=h2
 !cE (aCX ho ho' o1 o2 ha hb hc hm) (MV t1 t2)
##MW {a b c:Expr} {op op':CmpOp} {pos:Pos} {r r':R2} {p q:D->D->Option D} {fa fb fc:EF} (ho:i6 X (compareOp op) r) (ho':i6 X (compareOp op') r') (h1:O4 X.K r p) (h2:O4 X.K r' q) (ha:bS X a fa) (hb:bS X b fb) (hc:bS X c fc)
  (hm:lastMarks [op,op'] [b,c]=false:=by with_unfolding_all rfl):vH X (.Compare a [op,op'] [b,c] pos) (tV (kF p q fa fb fc)):=by
 &⟨f,o1,t1,_⟩:=h1
 &⟨g,o2,t2,b2⟩:=h2
 @cT (ZK ho ho' o1 o2 ha hb hc hm) fun ρ Q w=>?_
 &⟨b,e,q⟩:=w
 &⟨d,e1,e2⟩:=bnd e
 @MV t1 t2 ρ _ ⟨d,e1,?_⟩
 have hd:∃ c,d=.bl c:=by
  &⟨x,ex,e1⟩:=bnd e1
  &⟨y,ey,e1⟩:=bnd e1
  &⟨z,ez,e1⟩:=bnd e1
  &⟨k,ek,e1⟩:=bnd e1
  cases k with
  | true =>
   rw [if_pos rfl] at e1
   &⟨u,eu,e1⟩:=bnd e1
   !b2 _ _ _ e1
  | false =>
   rw [if_neg Bool.false_ne_true] at e1
   cases e1
   !⟨_,rfl⟩
 &⟨c,rfl⟩:=hd
 cases e2
 !q
section
variable {a b c:Expr} {rest:List Expr} {pos:Pos} {fa fb:EF} {ta tb tc:TF}
##sP (ha:vH X a ta):vH X (.UnaryOp .Not a pos) (hZ ta):=cT (aEw ha) fun ρ Q aL0=>by
 &⟨b,e,q⟩:=aL0
 &⟨c,ec,rfl⟩:=tK e
 !⟨c,ec,q⟩
##x6 (ha:vH X a ta):BX X (.BoolOp .And [a] pos) ta:=aJ8 ha
##VE (ha:vH X a ta):BX X (.BoolOp .Or [a] pos) ta:=or1 ha
##x8 (ha:vH X a ta) (hb:BX X (.BoolOp .And (b::rest) pos) tb):BX X (.BoolOp .And (a::b::rest) pos) (kX ta tb):=cW (aEx ha hb) fun ρ Q aL1=>by
 &⟨d,e,q⟩:=aL1
 &⟨c,ec,e⟩:=bnd e
 @⟨c,ec,?_⟩
 cases c with
 | true=>rw [if_pos rfl] at e ⊢; !⟨d,e,q⟩
 | false=>rw [if_neg Bool.false_ne_true] at e ⊢; cases e; !q
##VF (ha:vH X a ta) (hb:BX X (.BoolOp .Or (b::rest) pos) tb):BX X (.BoolOp .Or (a::b::rest) pos) (u4 ta tb):=cW (aJa ha hb) fun ρ Q aL2=>by
 &⟨d,e,q⟩:=aL2
 &⟨c,ec,e⟩:=bnd e
 @⟨c,ec,?_⟩
 cases c with
 | true=>rw [if_pos rfl] at e ⊢; cases e; !q
 | false=>rw [if_neg Bool.false_ne_true] at e ⊢; !⟨d,e,q⟩
##JP {op} (ha:bS X a fa):bS X (.BoolOp op [a] pos) fa:=aJd ha
##D5 (ha:bS X a fa) (hb:bS X (.BoolOp .And (b::rest) pos) fb):bS X (.BoolOp .And (a::b::rest) pos) (kE fa fb):=cE (aJe ha hb) fun ρ Q aL3=>by
 &⟨d,e,q⟩:=aL3
 &⟨x,ex,e1⟩:=bnd e
 &⟨c,ec,e⟩:=bnd e1
 clear e1
 @⟨x,ex,?_⟩
 cases x<;>first | cases ec; done | skip
 cases ec
 cases c with
 | true=>rw [if_pos rfl] at e; !⟨d,e,q⟩
 | false=>rw [if_neg Bool.false_ne_true] at e; cases e; !q
##or4 (ha:bS X a fa) (hb:bS X (.BoolOp .Or (b::rest) pos) fb):bS X (.BoolOp .Or (a::b::rest) pos) (eOr fa fb):=cE (or3 ha hb) fun ρ Q aL4=>by
 &⟨d,e,q⟩:=aL4
 &⟨x,ex,e1⟩:=bnd e
 &⟨c,ec,e⟩:=bnd e1
 clear e1
 @⟨x,ex,?_⟩
 cases x<;>first | cases ec; done | skip
 cases ec
 cases c with
 | true=>rw [if_pos rfl] at e; cases e; !q
 | false=>rw [if_neg Bool.false_ne_true] at e; !⟨d,e,q⟩
##if4 (hc:vH X c tc) (ha:bS X a fa) (hb:bS X b fb):bS X (.IfExp c a b pos) (eIf tc fa fb):=cE (if3 hc ha hb) fun ρ Q aL5=>by
 &⟨d,e,q⟩:=aL5
 &⟨c,ec,e⟩:=bnd e
 @⟨c,ec,?_⟩
 cases c with
 | true=>rw [if_pos rfl] at e ⊢; !⟨d,e,q⟩
 | false=>rw [if_neg Bool.false_ne_true] at e ⊢; !⟨d,e,q⟩
##JQ (ha:bS X a fa):bS X (.UnaryOp .USub a pos) (mW fa):=cE (aJj ha) fun ρ Q aL6=>by
 &⟨d,e,q⟩:=aL6
 &⟨x,ex,e⟩:=bnd e
 @⟨x,ex,?_⟩
 cases x<;>first | cases e; done | skip
 cases e
 !q
##x9 {e:Expr} {f:EF} (h:bS X e f) (he:∀ whole,isTrue e X.env whole=(do let v <- whole; standAt e.pos; holding [v] (truthy v)):=by intro _; rfl):vH X e (tV f) :=
 JH (TZ h he) fun σ H Q aL7=>by
  &⟨S,ρ,Q3,fc,sl,⟨b,hb,q3⟩,k⟩:=aL7
  &⟨d0,ed,et⟩:=bnd hb
  @⟨S,ρ,fun d=>d=d0,fc,sl,⟨d0,ed,rfl⟩,fun v H1 d s1 d1 q1=>?_⟩
  subst q1
  cases d with
  | bl c=>cases et; simp only [Dn] at d1; subst d1; !⟨_,rfl,k _ H1 s1 q3⟩
  | lst ds =>
   cases et
   simp only [Dn] at d1
   &⟨a,xs,rfl,ha,sa,da⟩:=d1
   !⟨_,.inl ⟨xs,gH.of ha,by rw [<- da.empty]⟩,k _ H1 s1 q3⟩
  | tup ds =>
   cases et
   simp only [Dn] at d1
   &⟨a,xs,rfl,ha,da⟩:=d1
   !⟨_,.inr (.inl ⟨xs,(gA.of ha),by rw [<- da.empty]⟩),k _ H1 s1 q3⟩
  | _=>cases et
end
end
section
variable {X:Cx}
##aL:zZ X [] aE:=cA aJR fun _ _ aL8=>by &⟨_,e,q⟩:=aL8; cases e; !q
##aF {e:Expr} {es:List Expr} {fe:EF} {t:AF} (ha:bS X e fe) (hr:zZ X es t) (hs:starEach (e::es) X.env=(false,eval e X.env)::starEach es X.env:=by rfl):zZ X (e::es) (aA fe t):=cA (aEq ha hr hs) fun ρ Q aL9=>by
 &⟨ds,e,q⟩:=aL9
 &⟨d,ed,e⟩:=bnd e
 &⟨r,er,e⟩:=bnd e
 cases e
 !⟨d,ed,r,er,q⟩
##qT {es:List Expr} {t:AF} {x1} {pos:Pos} (h:zZ X es t):bS X (.Tuple es x1 pos) (dG t):=cE (aJU h) fun ρ Q aLa=>by
 &⟨d,e,q⟩:=aLa
 &⟨ds,ed,e⟩:=bnd e
 !⟨ds,ed,szl (x:=D.tup ds) e q⟩
##pV {es:List Expr} {t:AF} {pos:Pos} (h:zZ X es t):pL X (.List es pos) (dL t):=cF (aJW h) fun ρ Q aLb=>by
 &⟨d,e,q⟩:=aLb
 &⟨ds,ed,e⟩:=bnd e
 !⟨ds,ed,szl (x:=D.lst ds) e q⟩
##VG:Tells ixF aY:=fun x y d Q e q=>by
 cases x<;>first | (cases e; done) | skip
 all_goals (cases y<;>first | (cases e; done) | skip)
 ·have e:vE _ _=some d:=e
  show (match vE _ _ with | some d=>Q d | none=>False)
  rw [e]; !q
 ·have e:vE _ _=some d:=e
  show (match vE _ _ with | some d=>Q d | none=>False)
  rw [e]; !q
 ·&⟨n,e1,rfl⟩:=tK e
  have e1:vE _ _=some n:=e1
  show (match vE _ _ with | some n=>Q (.int n) | none=>False)
  rw [e1]; !q
##fG {a b:Expr} {pos:Pos} {fa fb:EF} (ha:bS X a fa) (hb:bS X b fb) (hs:DQ b:=by intro _ _; rfl):bS X (.Subscript a b pos) (aC aY fa fb):=cE (ix3 ha hb hs) (iH VG)
##PB:Tells aCh wB:=fun x y d Q e q=>by
 cases x<;>first | cases e; done | skip
 rename_i ks ds
 &⟨k,ek,e⟩:=bnd e
 have ek:GK y=some k:=by cases y<;>first | !ek | cases ek
 have e:lH ks ds k=some d:=e
 show (match D.lB ks ds,GK y with
  | .lB ks ds,some k=>(match lH ks ds k with | some d=>Q d | none=>False)
  | _,_=>False)
 rw [ek]
 dsimp only
 rw [e]; !q
##aFb {o i:Expr} {pos:Pos} {fo fi:EF} (hu:X.A.units+1<cLine) (ho:bS X o fo) (hi:bS X i fi) (hs:OO i:=by intro _ _; rfl):bS X (.Subscript o i pos) (aC wB fo fi):=cE (aKn hu ho hi hs) (iH PB)
def qU (f:F1) (g:List D->Option D):Prop:=∀ (ds:List D) (d:D) (Q:D->Prop),g ds=some d->Q d->f ds Q
##JR {f:F1} {g:List D->Option D} (h:qU f g) {t:AF} (ρ:bR) (Q:D->Prop) (w:wE (bF g t) ρ Q):OT f (wA t) ρ Q:=by
 &⟨d,e,q⟩:=w
 &⟨ds,ed,e⟩:=bnd e
 !⟨ds,ed,h ds d Q e q⟩
##PD:qU GA aV:=fun ds d Q e q=>by
 cases ds with
 | nil=>cases e
 | cons a ds =>
  cases a<;>first | (cases e; done) | skip
  all_goals (cases ds<;>first | (cases e; !q) | (cases e; done))
##GN:qU JI bW:=fun ds d Q e q=>by
 cases ds with
 | nil=>cases e
 | cons a ds =>
  cases a<;>first | (cases e; done) | skip
  all_goals (cases ds<;>first | (cases e; !q) | (cases e; done))
##JS:qU UW rM:=fun ds d Q e q=>by
 cases ds with
 | nil=>cases e
 | cons a ds =>
  cases a<;>first | (cases e; done) | skip
  all_goals (cases ds<;>first | (cases e; !q) | (cases e; done))
##eU {p pos:Pos} {e:Expr} {t:AF} (hm:X.mg "len" = none) (ha:zZ X [e] t) (hg:Gl X "len" := by rfl) (he:starEach [e] X.env=(false,eval e X.env)::starEach [] X.env:=by rfl):bS X (.Call (.Name "len" p) [e] [] pos) (bF aV t):=cE (aJm hm ha hg he) (JR PD)
##oM {p pos:Pos} {e:Expr} {t:AF} (hm:X.mg "tuple" = none) (ha:zZ X [e] t) (hg:Gl X "tuple" := by rfl) (he:starEach [e] X.env=(false,eval e X.env)::starEach [] X.env:=by rfl):bS X (.Call (.Name "tuple" p) [e] [] pos) (bF bW t):=cE (aCZ hm PyProof.Rows.boot_tuple ha hg he) (JR GN)
##aAr {p pos:Pos} {e:Expr} {t:AF} (hm:X.mg "list" = none) (ha:zZ X [e] t) (hg:Gl X "list" := by rfl) (he:starEach [e] X.env=(false,eval e X.env)::starEach [] X.env:=by rfl):pL X (.Call (.Name "list" p) [e] [] pos) (bF rM t):=cF (aEz hm PyProof.Rows.boot_list ha hg he) (JR JS)
##BY:∀ ds:List D,L3.intsOf ds=L4.intsOf ds
 | []=>rfl
 | d::ds=>by
  cases d<;>first | rfl | skip
  show (L3.intsOf ds).map _=(L4.intsOf ds).map _
  rw [BY ds]
##qV (a:Int):∀ l:List Int,(insI a l).Perm (a::l)
 | []=>.refl _
 | b::l=>by
  ~insI
  split
  ·!.refl _
  ·!((qV a l).cons b).trans (.swap a b l)
##oN:∀ l:List Int,(sortI l).Perm l
 | []=>.refl _
 | a::l=>(qV a (sortI l)).trans ((oN l).cons a)
##sQ (a:Int):∀ l:List Int,l.Pairwise (· <= ·)->(insI a l).Pairwise (· <= ·)
 | [],_=>by simp [insI]
 | b::l,h=>by
  ~insI
  split
  ·rename_i hab
   @List.pairwise_cons.mpr ⟨fun c hc=>?_,h⟩
   rcases List.mem_cons.mp hc with e | e
   ·subst e; !hab
   ·!Int.le_trans hab ((List.pairwise_cons.mp h).1 c e)
  ·rename_i hab
   @List.pairwise_cons.mpr ⟨fun c hc=>?_,sQ a l (List.pairwise_cons.mp h).2⟩
   rcases List.mem_cons.mp ((qV a l).mem_iff.mp hc) with e | e
   ·subst e; omega
   ·!(List.pairwise_cons.mp h).1 c e
##lU:∀ l:List Int,(sortI l).Pairwise (· <= ·)
 | []=>List.Pairwise.nil
 | a::l=>sQ a _ (lU l)
##qW:∀ {l m:List Int},l.Perm m->l.Pairwise (· <= ·)->m.Pairwise (· <= ·)->l=m
 | [],m,p,_,_=>by rw [p.nil_eq]
 | a::l,[],p,_,_=>by have:=p.length_eq; simp at this
 | a::l,b::m,p,h1,h2=>by
  have e:a=b:=by
   have m1:=p.mem_iff.mp (List.mem_cons_self (a:=a) (l:=l))
   have m2:=p.mem_iff.mpr (List.mem_cons_self (a:=b) (l:=m))
   rcases List.mem_cons.mp m1 with e | e
   ·!e
   ·rcases List.mem_cons.mp m2 with e2 | e2
    ·!e2.symm
    ·have:=(List.pairwise_cons.mp h2).1 a e
     have:=(List.pairwise_cons.mp h1).1 b e2
     omega
  subst e
  rw [qW p.cons_inv (List.pairwise_cons.mp h1).2 (List.pairwise_cons.mp h2).2]
##D6:qU U5 gE:=fun ds d Q e q=>by
 ~gE at e
 split at e
 ·rename_i a
  &⟨ns,e1,e⟩:=bnd e
  by_cases hl:ns.length<64
  ·rw [if_pos hl] at e
   cases e
   show (match L3.intsOf a with | some ns=>ns.length<64 /\ ∀ ns':List Int,ns'.Perm ns->ns'.Pairwise (· <= ·)->Q (.lst (ns'.map D.int)) | none=>False)
   rw [BY,e1]
   @⟨hl,fun ns' p s=>?_⟩
   rw [qW (p.trans (oN ns).symm) s (lU ns)]
   !q
  ·rw [if_neg hl] at e; cases e
 ·cases e
##MX {p pos:Pos} {e:Expr} {t:AF} (hm:X.mg "sorted" = none) (ha:zZ X [e] t) (hg:Gl X "sorted" := by rfl) (he:starEach [e] X.env=(false,eval e X.env)::starEach [] X.env:=by rfl):pL X (.Call (.Name "sorted" p) [e] [] pos) (bF gE t):=cF (ZZ hm ha hg he) (JR D6)
##PF:qU sumF u7:=fun ds d Q e q=>by
 ~u7 at e
 split at e
 ·rename_i a
  &⟨ns,e1,rfl⟩:=tK e
  have:=ints_of e1
  subst this
  rw [O6]; !q
 ·cases e
##aFc {p pos:Pos} {e:Expr} {t:AF} (hc:X.calm=true) (hm:X.mg "sum" = none) (ha:zZ X [e] t) (hg:Gl X "sum" := by rfl) (he:starEach [e] X.env=(false,eval e X.env)::starEach [] X.env:=by rfl):bS X (.Call (.Name "sum" p) [e] [] pos) (bF u7 t):=cE (aLA hc hm ha hg he) (JR PF)
##aCs (T:String) (d:D):aBE T d=isT T d:=by cases d<;>rfl
##aLc {T:String} {x:Str} {e:Expr} {f:EF} {p p2 pos:Pos} (hT:Ty4 T) (hm:X.mg "isinstance" = none) (hmT:X.mg x=none) (hv:bootBuiltins x=some (.type T)) (he:bS X e f) (hg:Gl X "isinstance" := by rfl) (hgT:Gl X x:=by rfl) (hn:x ≠ "__name__" := by decide) (hdb:(x == ("__debug__" : Str))=false:=by decide)
  (hs:starEach [e,.Name x p2] X.env=(false,eval e X.env)::starEach [.Name x p2] X.env:=by rfl) (hs2:starEach [.Name x p2] X.env=(false,eval (.Name x p2) X.env)::starEach [] X.env:=by rfl) (hpl:(backTo pos (starEach [.Name x p2] X.env)).any (·.1)=false:=by rfl) :
  bS X (.Call (.Name "isinstance" p) [e,.Name x p2] [] pos) (nP T f):=cE (aKi hT hm hmT hv he hg hgT hn hdb hs hs2 hpl) fun ρ Q aLd=>by
 &⟨d,e,q⟩:=aLd
 &⟨x,ex,e⟩:=bnd e
 by_cases hx:aBF x=true
 ·rw [if_pos hx] at e
  cases e
  !⟨x,ex,(by cases x<;>first | trivial | cases hx),by show Q (.bl (isT T x)); rw [<- aCs]; !q⟩
 ·rw [if_neg hx] at e; cases e
def eF (K:PySem.W.Frag) (R:eT):Sp:=sp3 K fun ds Q=>∃ d,R ds=.ok d/\Q d
##cD {k:Nat} {f:Addr} {fd:FuncData} {ps:List Str} {R:eT} {x:Str} {p pos:Pos} {e:Expr} {es:List Expr} {t:AF} (F:aW X.prog X.w X.K X.mg X.base dO k f fd ps (eF X.K R)) (hr:lA k X.A) (hm:X.mg x=some (.ref f)) (hk:PySem.W.keepIn X.K (.ref f)=true) (hb:Binds X.K fd ps [])
  (ha:zZ X (e::es) t) (hg:Gl X x:=by rfl) (hdb:(x == ("__debug__" : Str))=false:=by decide) (he:starEach (e::es) X.env=(false,eval e X.env)::starEach es X.env:=by rfl) (hpl:(backTo pos (starEach es X.env)).any (·.1)=false:=by rfl) :
  bS X (.Call (.Name x p) (e::es) [] pos) (aG R t):=cE (aFA F hr hm hk hb ha hg hdb he hpl) fun ρ Q aLe=>by
 &⟨d,e,q⟩:=aLe
 &⟨ds,ed,e⟩:=bnd e
 @⟨ds,ed,d,?_,q⟩
 cases h:R ds with
 | ok d'=>rw [h] at e; cases e; rfl
 | no=>rw [h] at e; cases e
 | ex c=>rw [h] at e; cases e
##JT {a:Expr} {t:AF} {p pos p2 pos2:Pos} (hc:X.calm=true) (hm:X.mg "list" = none) (hmr:X.mg "range" = none) (ha:zZ X [a] t) (hg:Gl X "list" := by rfl) (hgr:Gl X "range" := by rfl) (hs:starEach [a] X.env=[(false,eval a X.env)]:=by rfl)
  (he:starEach [.Call (.Name "range" p2) [a] [] pos2] X.env=(false,eval (.Call (.Name "range" p2) [a] [] pos2) X.env)::starEach [] X.env:=by rfl) :
  pL X (.Call (.Name "list" p) [.Call (.Name "range" p2) [a] [] pos2] [] pos) (HR t):=cF (JK hc hm hmr ha hg hgr hs he) fun ρ Q aLf=>by
 &⟨d,e,q⟩:=aLf
 &⟨ds,ed,e⟩:=bnd e
 @⟨ds,ed,?_⟩
 split at e
 ·rename_i j
  by_cases h:j.natAbs<=16777216
  ·rw [if_pos h] at e; cases e; !⟨⟨by omega,by omega⟩,q⟩
  ·rw [if_neg h] at e; cases e
 ·cases e
section
variable {tg:Expr}
##sR {l:Expr} {f:EF} (h:bS X l f):Z6 X tg l (dD f):=cI (aFJ h) fun ρ Q aLg=>by
 &⟨ds,e,q⟩:=aLg
 &⟨d,ed,e⟩:=bnd e
 @⟨d,ed,?_⟩
 cases d<;>first | cases e; done | skip
 all_goals (cases e; !q)
##VH {fa:EF} {ρ:bR} {as:List D} (h:aA fa aE ρ=some as):∃ a,fa ρ=some a/\as=[a]:=by
 &⟨a,ea,e⟩:=bnd h
 cases e
 !⟨a,ea,rfl⟩
##aCt {fa fb:EF} {ρ:bR} {as:List D} (h:aA fa (aA fb aE) ρ=some as):∃ a b,fa ρ=some a/\fb ρ=some b/\as=[a,b]:=by
 &⟨a,ea,e⟩:=bnd h
 &⟨r,er,e⟩:=bnd e
 &⟨b,eb,rfl⟩:=VH er
 cases e
 !⟨a,b,ea,eb,rfl⟩
##fY {a:Expr} {fa:EF} {p pos:Pos} (hm:X.mg "range" = none) (ha:bS X a fa) (hg:Gl X "range" := by rfl) (hs:starEach [a] X.env=[(false,eval a X.env)]:=by rfl):Z6 X tg (.Call (.Name "range" p) [a] [] pos) (aR (aA fa aE)):=cI (aCb hm (aF ha aL hs) hg hs) fun ρ Q aLh=>by
 &⟨ds,e,q⟩:=aLh
 &⟨as,ea,e⟩:=bnd e
 @⟨as,ea,?_⟩
 &⟨a,ha',rfl⟩:=VH ea
 clear ea ha'
 cases a<;>first | cases e; done | skip
 rename_i j
 by_cases h:j.natAbs<4611686018427387904
 ·have e:(if j.natAbs<4611686018427387904 then some ((bG 0 j.toNat).map D.int) else none)=some ds:=e
  rw [if_pos h] at e; cases e; !⟨⟨by omega,by omega⟩,q⟩
 ·have e:(if j.natAbs<4611686018427387904 then some ((bG 0 j.toNat).map D.int) else none)=some ds:=e
  rw [if_neg h] at e; cases e
##MY {a b:Expr} {fa fb:EF} {p pos:Pos} (hm:X.mg "range" = none) (ha:bS X a fa) (hb:bS X b fb) (hg:Gl X "range" := by rfl) (hs:starEach [a,b] X.env=[(false,eval a X.env),(false,eval b X.env)]:=by rfl) (hs2:starEach [b] X.env=[(false,eval b X.env)]:=by rfl) :
  Z6 X tg (.Call (.Name "range" p) [a,b] [] pos) (aR (aA fa (aA fb aE))):=cI (ZS hm (aF ha (aF hb aL hs2) (by rw [hs,hs2])) hg hs hs2) fun ρ Q aLi=>by
 &⟨ds,e,q⟩:=aLi
 &⟨as,ea,e⟩:=bnd e
 @⟨as,ea,?_⟩
 &⟨a,b,ha',hb',rfl⟩:=aCt ea
 clear ea ha' hb'
 cases a<;>first | (cases e; done) | skip
 all_goals (cases b<;>first | (cases e; done) | skip)
 rename_i i j
 by_cases h:i.natAbs<4611686018427387904/\j.natAbs<4611686018427387904
 ·have e:(if i.natAbs<4611686018427387904/\j.natAbs<4611686018427387904 then some ((bG i (j - i).toNat).map D.int) else none)=some ds:=e
  rw [if_pos h] at e; cases e; !⟨⟨by omega,by omega,by omega,by omega⟩,q⟩
 ·have e:(if i.natAbs<4611686018427387904/\j.natAbs<4611686018427387904 then some ((bG i (j - i).toNat).map D.int) else none)=some ds:=e
  rw [if_neg h] at e; cases e
end
##qX {a:Expr} {t:AF} {es:List Expr} {kk:Nat} {tp p pos:Pos} (hm:X.mg "enumerate" = none) (ha:zZ X [a] t) (hg:Gl X "enumerate" := by rfl) (hs:starEach [a] X.env=[(false,eval a X.env)]:=by rfl):Z6 X (.Tuple es kk tp) (.Call (.Name "enumerate" p) [a] [] pos) (nV t):=cI (JO hm ha hg hs) fun ρ Q aLj=>by
 &⟨ds,e,q⟩:=aLj
 &⟨as,ea,e⟩:=bnd e
 @⟨as,ea,?_⟩
 ~KY at e
 split at e<;>first | (cases e; !q) | cases e
##yA {g:HU} {t:TF} {e:EF} {ρ:bR}:∀ (ds acc ys:List D) (Q:D->Prop),kG g t e ρ ds=some ys->acc.length+ds.length<=sizeLine->Q (.lst (acc++ys))->sN (wGE g) (wT t) (wE e) ρ ds acc Q
 | [],acc,ys,Q,h,_,q=>by
  cases h
  rw [sN]
  simpa using q
 | d::ds,acc,ys,Q,h,hl,q=>by
  rw [sN]
  &⟨ρ1,e1,h⟩:=bnd h
  &⟨b,e2,h⟩:=bnd h
  simp only [List.length_cons] at hl
  @⟨ρ1,e1,b,e2,?_⟩
  cases b with
  | true =>
   rw [if_pos rfl] at h ⊢
   &⟨y,e3,h⟩:=bnd h
   &⟨zs,e4,rfl⟩:=tK h
   !⟨y,e3,by omega,yA ds (acc++[y]) zs Q e4 (by simp; omega) (¥q)⟩
  | false =>
   rw [if_neg Bool.false_ne_true] at h ⊢
   !yA ds acc ys Q h ° q
##JU {nl:Nat} {fr:List Nat} {it:AF} {g:HU} {t:TF} {e:EF} (ρ:bR) (Q:D->Prop) (w:wE (bJ nl fr it g t e) ρ Q):GJ nl fr (wI it) (wGE g) (wT t) (wE e) ρ Q:=by
 &⟨d,h,q⟩:=w
 &⟨ds,e1,h⟩:=bnd h
 @⟨ds,e1,?_⟩
 by_cases hl:ds.length<=uK
 ·rw [if_pos hl] at h
  &⟨ys,e2,rfl⟩:=tK h
  !yA ds [] ys Q e2 (by rw [sizeLine_eq,List.length_nil,Nat.zero_add]; !hl) (¥q)
 ·rw [if_neg hl] at h; cases h
abbrev VI (X:Cx) (nl:Nat) (tg:Expr) (g:HU):Prop:=PG4 X nl tg (wGE g)
abbrev VJ (X:Cx) (ifs:List Expr) (t:TF):Prop:=OX X ifs (wT t)
##cG {nl:Nat} {tg:Expr} {g g':GE} (h:PG4 X nl tg g) (c:∀ d ρ Q,g' d ρ Q->g d ρ Q):PG4 X nl tg g':=OV h fun _ _ _ _ aLk=>by &⟨S,ρ,d,Q3,hl,fc,sl,dn,hg,k⟩:=aLk; !⟨S,ρ,d,Q3,hl,fc,sl,dn,c d ρ Q3 hg,k⟩
##jR {nl i:Nat} {x:Str} {pos:Pos} (nd:X.N.Nodup) (hil:i<nl) (hi:X.N[i]? = some x:=by rfl) (hx:Loc X.env.scope x:=by first | !.inl rfl | !.inr rfl) (hfx:X.fn x=true\/X.env.scope.names.lookup x=some .local:=by first | !.inr rfl | !.inl rfl):VI X nl (.Name x pos) (g1 i):=cG (aFQ nd hil hi hx hfx) fun d ρ Q aLl=>by &⟨ρ',e,q⟩:=aLl; cases e; !q
##MZ {d:D} {p:D×D} (h:KZ d=some p):d=.tup [p.1,p.2]:=by
 cases d<;>first | (cases h; done) | skip
 rename_i l
 cases l with
 | nil=>cases h
 | cons a l =>
  cases l with
  | nil=>cases h
  | cons b l =>
   cases l with
   | nil=>cases h; rfl
   | cons c l=>cases h
##aCu {nl i j:Nat} {x y:Str} {kk:Nat} {pos px py:Pos} (hc:X.calm=true) (nd:X.N.Nodup) (hil:i<nl) (hjl:j<nl) (hi:X.N[i]? = some x:=by rfl) (hj:X.N[j]? = some y:=by rfl) (hx:Loc X.env.scope x:=by first | !.inl rfl | !.inr rfl) (hfx:X.fn x=true\/X.env.scope.names.lookup x=some .local:=by first | !.inr rfl | !.inl rfl) (hy:Loc X.env.scope y:=by first | !.inl rfl | !.inr rfl) (hfy:X.fn y=true\/X.env.scope.names.lookup y=some .local:=by first | !.inr rfl | !.inl rfl)
  (hn:(assignEach [.Name x px,.Name y py] X.env).length=2:=by rfl) (hst:(assignEach [.Name x px,.Name y py] X.env).findIdx? (·.1)=none:=by rfl)
  (hs1:(assignEach [.Name x px,.Name y py] X.env).map (·.2)=assign (.Name x px) X.env::(assignEach [.Name y py] X.env).map (·.2):=by rfl) (hs2:(assignEach [.Name y py] X.env).map (·.2)=assign (.Name y py) X.env::(assignEach [] X.env).map (·.2):=by rfl) :
  VI X nl (.Tuple [.Name x px,.Name y py] kk pos) (g2 i j):=cG (aFR hc nd hil hjl hi hj hx hfx hy hfy hn hst hs1 hs2) fun d ρ Q aLm=>by
 &⟨ρ',e,q⟩:=aLm
 &⟨p,ep,rfl⟩:=tK e
 rw [MZ ep]
 !q
##uW:VJ X [] cH:=fun pins s σ H Q I aLn=>by &⟨S,ρ,Q3,fc,sl,⟨_,e,q⟩,k⟩:=aLn; cases e; !aKc pins s σ H Q I ⟨S,ρ,Q3,fc,sl,q,k⟩
##yB {c:Expr} {t:TF} (h:vH X c t):VJ X [c] t:=aFT h
section
variable {ls fs:List Str} {fr:List Nat} {sc:Scope} {tg iter elt:Expr} {ifs:List Expr} {pos:Pos} {it:AF} {g:HU} {t:TF} {e:EF}
##oO (hc:X.calm=true) (hi:Z6 X tg iter it)
  (hg:∀ cl C pn ex s H,(blk X (ls++fs) sc cl C pn ex s H).N.Nodup->VI (blk X (ls++fs) sc cl C pn ex s H) ls.length tg g) (hf:∀ cl C pn ex s H,VJ (blk X (ls++fs) sc cl C pn ex s H) ifs t) (he:∀ cl C pn ex s H,bS (blk X (ls++fs) sc cl C pn ex s H) elt e)
  (B:chk X.env.scope.names sc X.N ls fs fr=true:=by rfl) (hs:∀ x,foldedSetIterable iter X.env x=pure x:=by intro _; rfl):pL X (.ListComp elt [⟨tg,iter,ifs,0⟩] sc pos) (bJ ls.length fr it g t e):=cF (aFU hc hi hg hf he B hs) JU
variable {i:Nat} {x:Str} {spos pos':Pos}
##VL (nd:X.N.Nodup) (hc:X.calm=true) (hi:Z6 X tg iter it)
  (hg:∀ cl C pn ex s H,(blk X (ls++fs) sc cl C pn ex s H).N.Nodup->VI (blk X (ls++fs) sc cl C pn ex s H) ls.length tg g) (hf:∀ cl C pn ex s H,VJ (blk X (ls++fs) sc cl C pn ex s H) ifs t) (he:∀ cl C pn ex s H,bS (blk X (ls++fs) sc cl C pn ex s H) elt e)
  (hx0:X.N[i]? = some x:=by rfl) (hx:X.env.scope.names.lookup x=some .local:=by rfl) (hsw:swapsWith (.ListComp elt [⟨tg,iter,ifs,0⟩] sc pos) (some (.Name x pos')) spos.line X.env=pure true:=by rfl)
  (B:chk X.env.scope.names sc X.N ls fs fr=true:=by rfl) (hs:∀ x,foldedSetIterable iter X.env x=pure x:=by intro _; rfl):tJ X (.Assign [.Name x pos'] (.ListComp elt [⟨tg,iter,ifs,0⟩] sc pos) spos) (iA i (bJ ls.length fr it g t e)) :=
 cS (U3 nd hc hi hg hf he hx0 hx hsw B hs) fun E ρ w=>by
  ~wS iA at w
  ~aC2
  cases h:bJ ls.length fr it g t e (kD ρ) with
  | none=>rw [h] at w; !w.elim
  | some d=>rw [h] at w; !JU _ _ ⟨d,h,w⟩
end
end
section
variable {X:Cx}
##cO {e:Option Expr} {t t':WO} (h:PO3 X e t) (c:∀ ρ Q,t' ρ Q->t ρ Q):PO3 X e t':=fun pins s σ H Q I aLo=>by &⟨S,ρ,Q3,fc,sl,ht,k⟩:=aLo; !h pins s σ H Q I ⟨S,ρ,Q3,fc,sl,c ρ Q3 ht,k⟩
##no4:PO4 X none W3:=cO aLB fun _ _ aLq=>by &⟨_,e,q⟩:=aLq; cases e; !q
##po4 {e:Expr} {f:EF} (h:bS X e f):PO4 X (some e) (oE f):=cO (po3 h) fun ρ Q aLr=>by
 &⟨o,e,q⟩:=aLr
 &⟨d,ed,e⟩:=bnd e
 &⟨i,ei,rfl⟩:=tK e
 @⟨d,ed,?_⟩
 cases d<;>first | cases ei; done | skip
 cases ei; !q
##sl4 {e:Expr} {lo hi:Option Expr} {p2 pos:Pos} {f:EF} {fl fh:OF} (he:bS X e f) (hl:PO4 X lo fl) (hh:PO4 X hi fh):bS X (.Subscript e (.Slice lo hi none p2) pos) (K0 f fl fh):=cE (sl3 he hl hh) fun ρ Q aLs=>by
 &⟨r,e,q⟩:=aLs
 &⟨d,ed,e⟩:=bnd e
 &⟨l,el,e⟩:=bnd e
 &⟨h,eh,e⟩:=bnd e
 @⟨d,ed,l,el,h,eh,?_⟩
 cases d<;>first | cases e; done | skip
 all_goals (cases e; !q)
##px4 {e:Expr} {f:EF} (h:bS X e f):MT X e (fZ f):=cX (px3 h) fun ρ Q aFe=>by
 &⟨p,e,q⟩:=aFe
 &⟨d,ed,e⟩:=bnd e
 @⟨d,ed,?_⟩
 by_cases hi:d.vN=true
 ·rw [if_pos hi] at e; cases e; !⟨hi,q⟩
 ·rw [if_neg hi] at e; cases e
##uC {e:Expr} {f:EF} (h:bS X e f):MT X e (aZ f):=cX (aKF h) fun ρ Q aFf=>by
 &⟨p,e,q⟩:=aFf
 &⟨d,ed,e⟩:=bnd e
 cases e
 !⟨d,ed,q⟩
##JV {o:Option Sv} {ds:List D} (h:nQ o=some ds):o=some (.ow (.lst ds)):=by
 ~nQ at h
 split at h
 ·cases h; rfl
 ·cases h
def D7 (f:List D->D->(List D->D->Prop)->Prop) (m:List D->D->Option (List D×D)):Prop:=∀ ds d q (Q:List D->D->Prop),m ds d=some q->Q q.1 q.2->f ds d Q
##aCv {i:Nat} {f:List D->D->(List D->D->Prop)->Prop} {m:List D->D->Option (List D×D)} (h:D7 f m) {x:XF} (ρ:aP) (Q:aP->D->Prop) (w:wX (kU i m x) ρ Q):wM1 i f (wX x) ρ Q:=by
 &⟨r,e,q⟩:=w
 &⟨ds0,e0,e⟩:=bnd e
 &⟨p,ep,e⟩:=bnd e
 &⟨ds,e1,e⟩:=bnd e
 &⟨z,ez,rfl⟩:=tK e
 have o0:=JV e0
 have o1:=JV e1
 @⟨by rw [o0]; trivial,p,ep,?_⟩
 show (match p.1[i]? with | some (.ow (.lst ds))=>f ds p.2 fun ds' r=>Q (p.1.set i (.ow (.lst ds'))) r | _=>False)
 rw [o1]
 !h ds p.2 z _ ez q
##PH:D7 aC4 eX:=fun ds d q Q e k=>by
 ~eX at e
 by_cases h:ds.length<uK
 ·rw [if_pos h] at e; cases e; !⟨by rw [sizeLine_eq]; !h,k⟩
 ·rw [if_neg h] at e; cases e
##PJ:D7 aC6 XD:=fun ds d q Q e k=>by
 cases d<;>first | cases e; done | skip
 rename_i i
 have e:(if i.natAbs<9223372036854775808 then (XA ds.length i).bind fun j=>(ds[j]?).map fun d=>(ds.eraseIdx j,d) else none)=some q:=e
 by_cases h:i.natAbs<9223372036854775808
 ·rw [if_pos h] at e
  &⟨j,ej,e⟩:=bnd e
  &⟨d,ed,rfl⟩:=tK e
  have ej:Y6 ds.length i=some j:=ej
  @⟨⟨by omega,by omega⟩,?_⟩
  show (match Y6 ds.length i with | some j=>(match ds[j]? with | some d=>Q (ds.eraseIdx j) d | none=>False) | none=>False)
  rw [ej]
  dsimp only
  rw [ed]
  !k
 ·rw [if_neg h] at e; cases e
##PK:D7 aCk NC:=fun ds d q Q e k=>by
 cases d<;>first | cases e; done | skip
 rename_i es
 have e:(if ds.length+es.length<=uK then some (ds++es,D.non) else none)=some q:=e
 by_cases h:ds.length+es.length<=uK
 ·rw [if_pos h] at e; cases e; !⟨by rw [sizeLine_eq]; !h,k⟩
 ·rw [if_neg h] at e; cases e
section
variable {i:Nat} {x:Str} {e:Expr} {p apos cpos:Pos} {f:XF}
##yC (he:MT X e f) (hN:X.N[i]? = some x:=by rfl) (hv:EL X.env.scope x:=by first | !Or.inl rfl | !Or.inr (Or.inl rfl) | !Or.inr (Or.inr rfl)) (hd:(x == ("__debug__" : Str))=false:=by decide) (hcd:(x == ("__classdict__" : Str))=false:=by decide)
  (hbase:attributeBase (.Name x p) "append" X.env (eval (.Name x p) X.env)=eval (.Name x p) X.env:=by rfl)
  (hfew:((backTo cpos (starEach [e] X.env)).all (fun x=>!x.1)&&(backToKw cpos (keywordEach [] X.env)).all (fun x=>x.1.isSome)
   && decide ([e].length+([]:List Keyword).length+(if ([]:List Keyword).isEmpty then 0 else 1)<30))=true:=by rfl)
  (hline:(apos.endLine == cpos.line)=true:=by rfl) (hs:starEach [e] X.env=(false,eval e X.env)::starEach [] X.env:=by rfl) :
  MT X (.Call (.Attribute (.Name x p) "append" apos) [e] [] cpos) (kU i eX f):=cX (aKK he hN hv hd hcd hbase hfew hline hs) (aCv PH)
##aLt (he:MT X e f) (hN:X.N[i]? = some x:=by rfl) (hv:EL X.env.scope x:=by first | !Or.inl rfl | !Or.inr (Or.inl rfl) | !Or.inr (Or.inr rfl)) (hd:(x == ("__debug__" : Str))=false:=by decide) (hcd:(x == ("__classdict__" : Str))=false:=by decide)
  (hbase:attributeBase (.Name x p) "pop" X.env (eval (.Name x p) X.env)=eval (.Name x p) X.env:=by rfl)
  (hfew:((backTo cpos (starEach [e] X.env)).all (fun x=>!x.1)&&(backToKw cpos (keywordEach [] X.env)).all (fun x=>x.1.isSome)
   && decide ([e].length+([]:List Keyword).length+(if ([]:List Keyword).isEmpty then 0 else 1)<30))=true:=by rfl)
  (hline:(apos.endLine == cpos.line)=true:=by rfl) (hs:starEach [e] X.env=(false,eval e X.env)::starEach [] X.env:=by rfl) :
  MT X (.Call (.Attribute (.Name x p) "pop" apos) [e] [] cpos) (kU i XD f):=cX (aKL he hN hv hd hcd hbase hfew hline hs) (aCv PJ)
##Z8 (he:MT X e f) (hN:X.N[i]? = some x:=by rfl) (hv:EL X.env.scope x:=by first | !Or.inl rfl | !Or.inr (Or.inl rfl) | !Or.inr (Or.inr rfl)) (hd:(x == ("__debug__" : Str))=false:=by decide) (hcd:(x == ("__classdict__" : Str))=false:=by decide)
  (hbase:attributeBase (.Name x p) "extend" X.env (eval (.Name x p) X.env)=eval (.Name x p) X.env:=by rfl)
  (hfew:((backTo cpos (starEach [e] X.env)).all (fun x=>!x.1)&&(backToKw cpos (keywordEach [] X.env)).all (fun x=>x.1.isSome)
   && decide ([e].length+([]:List Keyword).length+(if ([]:List Keyword).isEmpty then 0 else 1)<30))=true:=by rfl)
  (hline:(apos.endLine == cpos.line)=true:=by rfl) (hs:starEach [e] X.env=(false,eval e X.env)::starEach [] X.env:=by rfl) :
  MT X (.Call (.Attribute (.Name x p) "extend" apos) [e] [] cpos) (kU i NC f):=cX (Z0 he hN hv hd hcd hbase hfew hline hs) (aCv PK)
##aFg (hN:X.N[i]? = some x:=by rfl) (hv:EL X.env.scope x:=by first | !Or.inl rfl | !Or.inr (Or.inl rfl) | !Or.inr (Or.inr rfl)) (hd:(x == ("__debug__" : Str))=false:=by decide) (hcd:(x == ("__classdict__" : Str))=false:=by decide)
  (hbase:attributeBase (.Name x p) "pop" X.env (eval (.Name x p) X.env)=eval (.Name x p) X.env:=by rfl) (hline:(apos.endLine == cpos.line)=true:=by rfl) :
  MT X (.Call (.Attribute (.Name x p) "pop" apos) [] [] cpos) (AN i):=cX (aF0 hN hv hd hcd hbase hline) fun ρ Q aFh=>by
 &⟨r,e,q⟩:=aFh
 &⟨ds,ed,e⟩:=bnd e
 &⟨d,e1,rfl⟩:=tK e
 have o:=JV ed
 show (match ρ[i]? with | some (.ow (.lst ds))=>(match ds[ds.length - 1]? with | some d=>Q (ρ.set i (.ow (.lst ds.dropLast))) d | none=>False) | _=>False)
 rw [o]
 dsimp only
 rw [e1]
 !q
end
##jS:z0 X [] bY:=cSs aJo fun _ _ w=>w
##aFi {f g:SF} (E:DE) (ρ:aP) (w:wS (aH f g) E ρ):aC1 (wS f) (wS g) E ρ:=by
 ~wS aH at w
 ~aC1 wS
 cases h:f ρ with
 | nx ρ'=>rw [h] at w; !w
 | rt d=>rw [h] at w; !w
 | no=>rw [h] at w; !w
 | ex c=>rw [h] at w; !w
##bI {st:Stmt} {rest:List Stmt} {f g:SF} (h1:tJ X st f) (h2:z0 X rest g):z0 X (st::rest) (aH f g):=cSs (aJq h1 h2) aFi
##aS {st:Stmt} {f:SF} (h1:tJ X st f):z0 X [st] f:=aFC h1
##fP {e:Expr} {f:EF} {pos:Pos} (h:bS X e f):tJ X (.Return (some e) pos) (aU f):=cS (aJt h) fun E ρ w=>by
 ~wS aU at w
 cases h:f (bT ρ) with
 | none=>rw [h] at w; !w.elim
 | some d=>rw [h] at w; !⟨d,h,w⟩
##iI {c:Expr} {a b:List Stmt} {pos:Pos} {t:TF} {f g:SF} (hc:vH X c t) (ha:z0 X a f) (hb:z0 X b g):tJ X (.If c a b pos) (eV t f g):=cS (aJw hc ha hb) fun E ρ w=>by
 ~wS eV at w
 cases h:t (bT ρ) with
 | none=>rw [h] at w; !w.elim
 | some c =>
  rw [h] at w
  @⟨c,h,?_⟩
  cases c with
  | true=>rw [if_pos rfl]; !w
  | false=>rw [if_neg Bool.false_ne_true]; !w
section
variable {i:Nat} {x:Str} {e:Expr} {f:EF} {pos pos':Pos}
##fC (hN:X.N.Nodup) (he:bS X e f) (hi:X.N[i]? = some x:=by rfl) (hx:Loc X.env.scope x:=by first | !.inl rfl | !.inr rfl) (hs:swapsWith e (some (.Name x pos')) pos.line X.env=pure false:=by rfl) (hf:X.fn x=true\/X.env.scope.names.lookup x=some .local:=by first | !.inl rfl | !.inr rfl) :
  tJ X (.Assign [.Name x pos'] e pos) (aN i f):=cS (aJz hN he hi hx hs hf) fun E ρ w=>by
 ~wS aN at w
 cases h:f (kD ρ) with
 | none=>rw [h] at w; !w.elim
 | some d=>rw [h] at w; !⟨d,h,w⟩
##AB (hN:X.N.Nodup) (he:pL X e f) (hi:X.N[i]? = some x:=by rfl) (hx:Loc X.env.scope x:=by first | !.inl rfl | !.inr rfl) (hs:swapsWith e (some (.Name x pos')) pos.line X.env=pure false:=by rfl) (hf:X.fn x=true\/X.env.scope.names.lookup x=some .local:=by first | !.inl rfl | !.inr rfl) :
  tJ X (.Assign [.Name x pos'] e pos) (iA i f):=cS (aKB hN he hi hx hs hf) fun E ρ w=>by
 ~wS iA at w
 cases h:f (kD ρ) with
 | none=>rw [h] at w; !w.elim
 | some d=>rw [h] at w; !⟨d,h,w⟩
##aAs (hN:X.N.Nodup) (he:pL X e f) (hi:X.N[i]? = some x:=by rfl) (hx:Loc X.env.scope x:=by first | !.inl rfl | !.inr rfl) (hs:swapsWith e (some (.Name x pos')) pos.line X.env=pure false:=by rfl) (hf:X.fn x=true\/X.env.scope.names.lookup x=some .local:=by first | !.inl rfl | !.inr rfl) :
  tJ X (.Assign [.Name x pos'] e pos) (lZ i f):=cS (aFZ hN he hi hx hs hf) fun E ρ w=>by
 ~wS lZ at w
 cases h:f (bT ρ) with
 | none=>rw [h] at w; !w.elim
 | some d =>
  rw [h] at w
  dsimp only at w
  by_cases hl:qD d=true
  ·rw [if_pos hl] at w
   @⟨d,h,?_,w⟩
   cases d<;>first | !hl | cases hl
  ·rw [if_neg hl] at w; !w.elim
##aFj {f:XF} (hN:X.N.Nodup) (he:MT X e f) (hi:X.N[i]? = some x:=by rfl) (hx:Loc X.env.scope x:=by first | !.inl rfl | !.inr rfl) (hs:swapsWith e (some (.Name x pos')) pos.line X.env=pure false:=by rfl) (hf:X.fn x=true\/X.env.scope.names.lookup x=some .local:=by first | !.inl rfl | !.inr rfl) :
  tJ X (.Assign [.Name x pos'] e pos) (uL i f):=cS (aFF hN he hi hx hs hf) fun E ρ w=>by
 ~wS uL at w
 cases h:f ρ with
 | none=>rw [h] at w; !w.elim
 | some d=>rw [h] at w; !⟨d,h,w⟩
##VM {p:Pos} (hN:X.N.Nodup) (hi:X.N[i]? = some x:=by rfl) (hx:Loc X.env.scope x:=by first | !.inl rfl | !.inr rfl) (hs:swapsWith (.Dict [] [] p) (some (.Name x pos')) pos.line X.env=pure false:=by rfl) (hf:X.fn x=true\/X.env.scope.names.lookup x=some .local:=by first | !.inl rfl | !.inr rfl) :
  tJ X (.Assign [.Name x pos'] (.Dict [] [] p) pos) (Q6 i):=cS (U7 hN hi hx hs hf) fun E ρ w=>w
end
##mL {e:Expr} {f:XF} {pos:Pos} (he:MT X e f) (hs:swapsWith e none pos.line X.env=pure false:=by rfl):tJ X (.Expr e pos) (sX f):=cS (aFH he hs) fun E ρ w=>by
 ~wS sX at w
 cases h:f ρ with
 | none=>rw [h] at w; !w.elim
 | some d=>rw [h] at w; !⟨d,h,w⟩
##PM {o:Option Sv} {p:List (Sum Int Str)×List D} (h:wF o=some p):o=some (.ow (.lB p.1 p.2)):=by
 ~wF at h
 split at h
 ·cases h; rfl
 ·cases h
##aFk {i:Nat} {x:Str} {e k:Expr} {f:XF} {fk:EF} {pos pos' p:Pos} (hu:X.A.units+1<cLine) (he:MT X e f) (hk:bS X k fk)
  (hN:X.N[i]? = some x:=by rfl) (hv:EL X.env.scope x:=by first | !Or.inl rfl | !Or.inr (Or.inl rfl) | !Or.inr (Or.inr rfl)) (hd:(x == ("__debug__" : Str))=false:=by decide) (hcd:(x == ("__classdict__" : Str))=false:=by decide)
  (hs:swapsWith e (some (.Subscript (.Name x p) k pos')) pos.line X.env=pure false:=by rfl) :
  tJ X (.Assign [.Subscript (.Name x p) k pos'] e pos) (K1 i f fk):=cS (aFY hu he hk hN hv hd hcd hs) fun E ρ w=>by
 ~wS K1 at w
 cases h:((f ρ).bind fun p=>(wF p.1[i]?).bind fun kd=>(fk (bT p.1)).bind fun kv=>(v0 kv).bind fun kk =>
  if (lD kd.1 kd.2 kk).isNone=true/\kd.2.length<uK then some (p.1.set i (.ow (.lB (kd.1++[kk]) (kd.2++[p.2])))) else none) with
 | none=>rw [h] at w; !w.elim
 | some ρ' =>
  rw [h] at w
  &⟨q,eq,h⟩:=bnd h
  &⟨kd,ed,h⟩:=bnd h
  &⟨kv,ek,h⟩:=bnd h
  &⟨kk,e2,h⟩:=bnd h
  have o:=PM ed
  by_cases hc:(lD kd.1 kd.2 kk).isNone=true/\kd.2.length<uK
  ·rw [if_pos hc] at h
   cases h
   @⟨q,eq,by rw [o]; trivial,kv,ek,?_⟩
   have e3:GK kv=some kk:=by cases kv<;>first | !e2 | cases e2
   show (match q.1[i]?,GK kv with
    | some (.ow (.lB ks ds)),some k=>(lH ks ds k=none/\ds.length<sizeLine)/\E.nx (q.1.set i (.ow (.lB (ks++[k]) (ds++[q.2]))))
    | _,_=>False)
   rw [o,e3]
   @⟨⟨?_,by rw [sizeLine_eq]; !hc.2⟩,w⟩
   have:=hc.1
   cases hl:lD kd.1 kd.2 kk with
   | none=>!hl
   | some d=>rw [hl] at this; cases this
  ·rw [if_neg hc] at h; cases h
##cGS {tg:Expr} {g g':WG} (h:ZT X tg g) (c:∀ d ρ Q,g' d ρ Q->g d ρ Q):ZT X tg g':=OV h fun _ _ _ _ aFl=>by &⟨H₀,S,w,ρ,G,d,Q3,hl,st,dn,hg,k⟩:=aFl; !⟨H₀,S,w,ρ,G,d,Q3,hl,st,dn,c d ρ Q3 hg,k⟩
##nN {i:Nat} {x:Str} {pos:Pos} (hN:X.N.Nodup) (hi:X.N[i]? = some x:=by rfl) (hx:Loc X.env.scope x:=by first | !.inl rfl | !.inr rfl) (hf:X.fn x=true\/X.env.scope.names.lookup x=some .local:=by first | !.inl rfl | !.inr rfl):ZT X (.Name x pos) (wG (lE i)) :=
 cGS (aFL hN hi hx hf) fun d ρ Q aFm=>by &⟨ρ',e,q⟩:=aFm; cases e; !q
##GO {i j:Nat} {x y:Str} {k:Nat} {pos px py:Pos} (hc:X.calm=true) (hN:X.N.Nodup) (hi:X.N[i]? = some x:=by rfl) (hj:X.N[j]? = some y:=by rfl) (hx:Loc X.env.scope x:=by first | !.inl rfl | !.inr rfl) (hy:Loc X.env.scope y:=by first | !.inl rfl | !.inr rfl)
  (hf:X.fn x=true\/X.env.scope.names.lookup x=some .local:=by first | !.inl rfl | !.inr rfl) (hf2:X.fn y=true\/X.env.scope.names.lookup y=some .local:=by first | !.inl rfl | !.inr rfl)
  (hn:(assignEach [.Name x px,.Name y py] X.env).length=2:=by rfl) (hst:(assignEach [.Name x px,.Name y py] X.env).findIdx? (·.1)=none:=by rfl)
  (hs1:(assignEach [.Name x px,.Name y py] X.env).map (·.2)=assign (.Name x px) X.env::(assignEach [.Name y py] X.env).map (·.2):=by rfl) (hs2:(assignEach [.Name y py] X.env).map (·.2)=assign (.Name y py) X.env::(assignEach [] X.env).map (·.2):=by rfl) :
  ZT X (.Tuple [.Name x px,.Name y py] k pos) (wG (HK i j)):=cGS (aFM hc hN hi hj hx hy hf hf2 hn hst hs1 hs2) fun d ρ Q aFo=>by
 &⟨ρ',e,q⟩:=aFo
 &⟨p,ep,rfl⟩:=tK e
 rw [MZ ep]
 !q
##qY {tg iter:Expr} {body:List Stmt} {it:AF} {g:K2} {b:SF} {pos:Pos} (hc:X.calm=true) (hp:PassesOwn (model X.prog X.w) X.A X.env X.xe) (hi:Z6 X tg iter it) (hg:ZT X tg (wG g)) (hb:z0 X body b)
  (hs:∀ x,foldedSetIterable iter X.env x=pure x:=by intro _; rfl):tJ X (.For tg iter body [] pos) (dE it g b):=cS (aKT hc hp hi hg hb hs) fun E ρ w=>by
 ~wS dE at w
 cases h:it (kD ρ) with
 | none=>rw [h] at w; !w.elim
 | some ds =>
  rw [h] at w
  @⟨ds,h,fun i ρ'=>wS (gU g b (ds.drop i)) E ρ',(by show wS (gU g b (ds.drop 0)) E ρ; rw [List.drop_zero]; !w),fun i d ρ' hd iv=>?_,fun ρ' iv=>?_⟩
  ·have hi:i<ds.length:=(List.getElem?_eq_some_iff.mp hd).1
   have e1:ds[i]=d:=(List.getElem?_eq_some_iff.mp hd).2
   have iv:wS (gU g b (ds.drop i)) E ρ':=iv
   rw [List.drop_eq_getElem_cons hi,e1] at iv
   ~wS gU at iv
   cases hg:g d ρ' with
   | none=>rw [hg] at iv; !iv.elim
   | some ρ1 =>
    rw [hg] at iv
    dsimp only at iv
    @⟨ρ1,hg,?_⟩
    ~wS
    cases hb:b ρ1 with
    | nx ρ2=>rw [hb] at iv; dsimp only; rw [hb]; !iv
    | rt d=>rw [hb] at iv; dsimp only; rw [hb]; !iv
    | no=>rw [hb] at iv; dsimp only; rw [hb]; !iv
    | ex c=>rw [hb] at iv; dsimp only; rw [hb]; !iv
  ·have iv:wS (gU g b (ds.drop ds.length)) E ρ':=iv
   rw [List.drop_length] at iv
   !iv
##aCw {c:Expr} {body:List Stmt} {t:TF} {b:SF} {pos:Pos} {n:Nat} (hp:PassesOwn (model X.prog X.w) X.A X.env X.xe) (hc:vH X c t) (hb:z0 X body b):tJ X (.While c body [] pos) (CJ n t b):=cS (aCj hp hc hb) fun E ρ w=>by
 have least:∀ {p:Nat->Prop},(∃ n,p n) -> ∃ n,p n /\ ∀ m,p m->n<=m:=fun {p} ⟨n,hn⟩=>by
  induction n using Nat.strongRecOn with
  | ind n ih =>
   by_cases h:∃ m,m<n/\p m
   ·&⟨m,hm,pm⟩:=h; !ih m hm pm
   ·!⟨n,hn,fun m pm=>by
     apply Classical.byContradiction
     intro z
     !h ⟨m,by omega,pm⟩⟩
 @⟨fun ρ'=>∃ m,wS (eZ t b m) E ρ',fun ρ'=>(Classical.epsilon fun m=>wS (eZ t b m) E ρ' /\ ∀ k,wS (eZ t b k) E ρ'->m<=k),⟨n,w⟩,fun ρ' iv=>?_⟩
 &⟨m0,hm0⟩:=least iv
 have hm:=Classical.epsilon_spec (p:=fun m=>wS (eZ t b m) E ρ' /\ ∀ k,wS (eZ t b k) E ρ'->m<=k) ⟨m0,hm0⟩
 dsimp only
 generalize (Classical.epsilon fun m=>wS (eZ t b m) E ρ' /\ ∀ k,wS (eZ t b k) E ρ'->m<=k)=m at hm ⊢
 cases m with
 | zero=>!hm.1.elim
 | succ m =>
  have h1:=hm.1
  ~wS eZ at h1
  cases ht:t (bT ρ') with
  | none=>rw [ht] at h1; !h1.elim
  | some c =>
   rw [ht] at h1
   @⟨c,ht,?_⟩
   cases c with
   | false=>rw [if_neg Bool.false_ne_true]; !h1
   | true =>
    rw [if_pos rfl]
    dsimp only at h1
    ~wS
    cases hb:b ρ' with
    | nx ρ2 =>
     rw [hb] at h1
     have h2:wS (eZ t b m) E ρ2:=h1
     @⟨⟨m,h2⟩,?_⟩
     &⟨k0,hk0⟩:=least (p:=fun m=>wS (eZ t b m) E ρ2) ⟨m,h2⟩
     have hk:=Classical.epsilon_spec (p:=fun m=>wS (eZ t b m) E ρ2 /\ ∀ k,wS (eZ t b k) E ρ2->m<=k) ⟨k0,hk0⟩
     !Nat.lt_succ_of_le (hk.2 m h2)
    | rt d=>rw [hb] at h1; !h1
    | no=>rw [hb] at h1; !h1
    | ex c=>rw [hb] at h1; !h1
end
##jJ {P:Program} {w:World} {K:PySem.W.Frag} {mg:Str->Option Value} {base:Heap} {x qual:Str} {st:Stmt} {f:Addr} {fd:FuncData} {N ps:List Str} {k n np:Nat} {b:SF} (F:nU K x qual st f fd) (S:bH N ps (aI st)) (hn:N.length=n) (hp:ps.length=np)
  (hbody:∀ (cdv:Value) (A:Around) (outer:List Env) (s:Shared) (H:Hp) (E:XK),lA k (A.deeper (envOfC qual (aI st) s.heap.objs.size f cdv)) ->
   z0 (t6 dO P w K mg base N qual (aI st) f cdv A outer s H E).nox (bE st) b):aW P w K mg base dO (k+1) f fd ps (eF K (bK n np b)):=by
 subst hn hp
 @aKD F S (fun ds Q ⟨d,e,q⟩=>?_) fun cdv A outer s H E hr=>⟨_,hbody cdv A outer s H E hr,fun ds Q ⟨d,e,q⟩=>?_⟩
 ·~bK at e
  by_cases h:ds.length=ps.length
  ·!h
  ·rw [if_neg h] at e; cases e
 ·~bK at e
  by_cases h:ds.length=ps.length
  ·rw [if_pos h] at e
   have e2:lO N ds=fA N.length ds:=rfl
   ~wS
   rw [e2]
   cases hb:b (fA N.length ds) with
   | rt d'=>rw [hb] at e; cases e; !q
   | nx ρ=>rw [hb] at e; cases e; !q
   | no=>rw [hb] at e; cases e
   | ex c=>rw [hb] at e; cases e
  ·rw [if_neg h] at e; cases e
section
variable {X:Cx} {pins:List (Addr×Obj)} {σ:L2.St} {H:Hp}
##GP {s:Shared} {x:V} {v:Value} {k:Bool} {A:Around} {E:Value->Shared->Prop} {Q:Bool->Shared->Prop} (I:Inv X pins σ H s) (rx:RelV x v) (e:x=.bl k\/(∃ p xs,x=.ref p/\(gH X.K H p xs\/gA X.K H p xs)/\k=!xs.isEmpty))
  (q:∀ tk,Q k { s with toks:=tk }):wpAny (model X.prog X.w) A (truthy v) Q E s:=by
 have hs:sizeLine=16777216:=sizeLine_eq
 rcases e with rfl | ⟨p,xs,rfl,hx,rfl⟩
 ·cases rx
  !wpAny_truthy_bool (q s.toks)
 ·cases rx
  rcases hx with hx | hx
  ·&⟨its,r,pl,hz⟩:=I.list hx
   have hlen:=r.length
   !wpAny_truthy_list pl.isList (by simp only [List.size_toArray]; omega) (by rw [nD r]; !q _)
  ·&⟨its,r,pl,hz⟩:=I.tuple hx
   have hlen:=r.length
   !truthy_tuple pl (by simp only [List.size_toArray]; omega) (by rw [nD r]; !q _)
def TrV (K:PySem.W.Frag) (H:Hp) (x:V) (k:Bool):Prop:=x=.bl k\/(∃ p xs,x=.ref p/\(gH K H p xs\/gA K H p xs)/\k=!xs.isEmpty)
##PN {n j:Nat} (h:j<n):(List.range n).drop j=j::(List.range n).drop (j+1):=by
 have hl:j<(List.range n).length:=by rw [List.length_range]; !h
 rw [List.drop_eq_getElem_cons hl,List.getElem_range]
section
variable {it:Addr} {fp wr:List Addr} {n:Nat} {P:Nat->Value->Prop} {St:Nat->Heap->Prop} {R:Result->Shared->Prop} {tr:Nat->Bool}
##BZ (W:Walks X.prog X.w X.A.in1 it fp wr n P St) (hf:∀ b∈wr,qQ X pins H b) (ht:∀ j v,P j v -> ∃ x,RelV x v/\TrV X.K H x (tr j)) :
  ∀ (m j:Nat) (st:Shared),m+j=n->Inv X pins σ H st->St j st.heap->(∀ st',Inv X pins σ H st'->R (.ok (.ret (.bool (((List.range n).drop j).all tr)))) st')->codeAny (model X.prog X.w) X.A (.builtin "all.loop" ⟨[.ref it],[]⟩) R st
 | 0,j,st,hj,I,hS,k=>by
  obtain rfl:j=n:=by omega
  @codeAny_builtin (F.entry_all_loop) ?_
  rw [Around.under_plainId F.plain_all_loop]
  @wpAny_bind (W.done st _ _ hS fun h2 t2 kp=>wpAny_bind (wpAny_rule (wpAny_pure ?_)))
  have:=k _ (U9 (t':=t2) I kp hf)
  rwa [List.drop_eq_nil_of_le (by simp)] at this
 | m+1,j,st,hj,I,hS,k=>by
  have hjn:j<n:=by omega
  @codeAny_builtin (F.entry_all_loop) ?_
  rw [Around.under_plainId F.plain_all_loop]
  @wpAny_bind (W.item j st _ _ hjn hS fun v h2 t2 pv hS2 kp=>?_)
  have I2:Inv X pins σ H { st with heap:=h2,toks:=t2 }:=U9 (t':=t2) I kp hf
  &⟨x,rx,hx⟩:=ht j v pv
  rw [PN hjn,List.all_cons] at k
  @wpAny_bind (wpAny_holding (GP I2 rx hx fun t3=>wpAny_bind (wpAny_letGo ?_)))
  have I3:Inv X pins σ H { st with heap:=h2,toks:=t3 }:=I2.tok t3
  cases hb:tr j with
  | true =>
   rw [hb,Bool.true_and] at k
   rw [if_pos rfl]
   !wpAny_pure ⟨plainId_quiet F.plain_all_loop _,BZ W hf ht m (j+1) _ ° I3 hS2 k⟩
  | false =>
   rw [hb,Bool.false_and] at k
   rw [if_neg Bool.false_ne_true]
   !wpAny_bind (wpAny_rule (wpAny_pure (k _ I3)))
end
def aFp (f:List Bool->Bool) (K:PySem.W.Frag):List V->Hp->VK->Prop:=fun xs H Q=>∃ a ys bs,xs=[.ref a]/\H a=some (.lst ys)/\bs.length=ys.length/\(∀ (j:Nat) (y:V) (b:Bool),ys[j]? = some y->bs[j]? = some b->TrV K H y b)/\Q (.bl (f bs)) H
##PP (hc:X.calm=true):jI X (.builtin "all") (aFp (fun bs=>bs.all id) X.K):=by
 intro pins s σ H xs us Q I r h
 &⟨a,ys,bs,rfl,ha,hl,ht,q⟩:=h
 &⟨u,rfl,ru⟩:=vals1 r
 cases ru
 &⟨its,rv,p,hz⟩:=I.list (gH.of ha)
 have hlt:a<s.heap.objs.size:=by &⟨o,n,e,_⟩:=p; !Heap.lt_size e
 have hn:its.length=ys.length:=rv.length.symm
 have ht2:∀ j v,its.toArray[j]? = some v -> ∃ x,RelV x v/\TrV X.K H x (bs.getD j true):=fun j v e=>by
  have e1:its[j]? = some v:=¥e
  have hj:j<ys.length:=by have:=(List.getElem?_eq_some_iff.mp e1).1; omega
  &⟨u,e2,ru⟩:=rv.get (List.getElem?_eq_getElem hj)
  rw [e1] at e2
  cases e2
  @⟨_,ru,ht j _ _ (List.getElem?_eq_getElem hj) ?_⟩
  rw [List.getD_eq_getElem?_getD,List.getElem?_eq_getElem °]
  rfl
 @call_function_tree (F.kind_all) F.plain_all F.entry_all (F.args_all1 _) ?_
 ~Builtin.«all»
 @wpAny_bind (m:=oneArg "all" _) (wpAny_pure (wpAny_bind (wpAny_pyIter_list p.isList (wpAny_pure ⟨plainId_quiet F.plain_all_loop _,?_⟩))))
 have hfr:H s.heap.objs.size=none:=I.hok.fresh (Nat.le_refl _)
 have I1:Inv X pins σ H { s with heap:=s.heap.push { cls:=.type "list_iterator",data:=.fields #[.ref a,rawInt 0] } }:=I.kept (t':=s.toks) fun b o e=>Heap.get?_push_of_some _ e
 @BZ (X:=X) (pins:=pins) (σ:=σ) (H:=H) (tr:=fun j=>bs.getD j true) (Walks.list (A:=X.A.in1) (show X.A.in1.handled=none from I.ok.hd hc) s.heap.objs.size a (Nat.ne_of_lt hlt) its.toArray) (fun b hb=>?_) ht2 its.toArray.size 0 _ rfl I1
  ⟨⟨_,Heap.get?_push_size _ rfl,rfl,rfl⟩,p.isList.at fun o e=>Heap.get?_push_of_some _ e⟩ fun st' I'=>?_
 ·cases List.mem_singleton.mp hb
  !I.IV (Nat.le_refl _) hfr
 ·@⟨.bl _,H,I',rfl,?_⟩
  rw [List.drop_zero,show its.toArray.size=bs.length by simp [hn,hl],range_all]
  !q
##aAt {K:PySem.W.Frag} {S:Addr->Prop} {H:Hp}:∀ {es:List D} {ys:List V} {bs:List Bool},bC K S H es ys->qC es=some bs->bs.length=ys.length /\ ∀ (j:Nat) (y:V) (b:Bool),ys[j]? = some y->bs[j]? = some b->TrV K H y b
 | [],ys,bs,dn,h=>by
  simp only [bC] at dn
  subst dn
  cases h
  !⟨rfl,fun j y b e=>by simp at e⟩
 | d::es,ys,bs,dn,h=>by
  &⟨v,r,rfl,h1,h2⟩:=dn.bV
  &⟨b,eb,h⟩:=bnd h
  &⟨bs',e2,rfl⟩:=tK h
  &⟨hl,ih⟩:=aAt h2 e2
  @⟨by simp [hl],fun j y c ey ec=>?_⟩
  cases j with
  | zero =>
   simp at ey ec
   subst ey ec
   cases d<;>first | cases eb; done | skip
   ·cases eb; simp only [Dn] at h1; !.inl h1
   ·cases eb; simp only [Dn] at h1; &⟨a,xs,rfl,ha,da⟩:=h1; !.inr ⟨a,xs,rfl,.inr (gA.of ha),by rw [<- da.empty]⟩
   ·cases eb; simp only [Dn] at h1; &⟨a,xs,rfl,ha,_,da⟩:=h1; !.inr ⟨a,xs,rfl,.inl (gH.of ha),by rw [<- da.empty]⟩
  | succ j=>!ih j y c (¥ey) (¥ec)
def trF (f:List Bool->Bool):F1
 | [.lst es],Q=>∃ bs,qC es=some bs/\Q (.bl (f bs))
 | _,_=>False
##aCx {K:PySem.W.Frag} {f:List Bool->Bool}:C3 K (aFp f K) (trF f):=by
 intro S H xs ds Q3 Q fc hd hf k
 match ds,hf with
 | [.lst es],⟨bs,eb,q⟩ =>
  &⟨v,r,rfl,h1,h2⟩:=hd.bV
  simp only [bC] at h2
  subst h2
  simp only [Dn] at h1
  &⟨a,ys,rfl,ha,sa,da⟩:=h1
  &⟨hl,ht⟩:=aAt da eb
  !⟨a,ys,bs,rfl,ha,hl,ht,k _ H _ (Same.refl H) (by simp only [Dn]) q⟩
##aCy {p pos:Pos} {e:Expr} {t:AF} (hc:X.calm=true) (hm:X.mg "all" = none) (ha:zZ X [e] t) (hg:Gl X "all" := by rfl) (he:starEach [e] X.env=(false,eval e X.env)::starEach [] X.env:=by rfl):bS X (.Call (.Name "all" p) [e] [] pos) (bF allM t) :=
 cE (D0 (PP hc) aCx PyProof.Rows.boot_all hg hm ha § § he (by rfl)) (JR fun ds d Q e q=>by
  ~allM at e
  split at e
  ·&⟨bs,eb,rfl⟩:=tK e; !⟨bs,eb,q⟩
  ·cases e)
end
end L4
end
section
namespace L3
open PySem PySem.Spec PyProof.Rows L2
namespace Rv
end Rv
section
variable {prog:Program} {w:World} {A:Around} {E:Value->Shared->Prop} {s:Shared}
end
section
variable {X:Cx} {tg:Expr}
end
section
variable {prog:Program} {w:World} {A:Around} {E:Value->Shared->Prop} {s:Shared}
end
section
variable {X:Cx}
end
end L3
namespace L4
open PySem PySem.Spec PyProof.Rows L2 L3
section
variable {X:Cx} {tg:Expr}
end
end L4
end
section
namespace L4
open PySem PySem.Spec PyProof.Rows L2 L3 PySem.W
section
variable {lt:Nat->Nat->Bool}
def Up (lt:Nat->Nat->Bool) (p:Array Nat) (k:Nat):Prop:=∀ i j,i<j->j<k->lt (p.getD j 0) (p.getD i 0)=false
structure aFq (lt:Nat->Nat->Bool):Prop where
 as:∀ a b,lt a b=true->lt b a=false
 tr:∀ a b c,lt b a=false->lt c b=false->lt c a=false
##aFq.W4 (O:aFq lt) (x:Nat):lt x x=false:=by
 cases hb:lt x x with
 | false=>rfl
 | true=>have:=O.as _ _ hb; rw [hb] at this; !this
end
end L4
end
section
namespace L4
open PySem PySem.Spec PyProof.Rows L2 L3 PySem.W Att
section
variable {prog:Program} {w:World} {A:Around} {s:Shared} {Q:Bool->Shared->Prop}
end
section
variable {n:Nat}
end
section
variable {X:Cx}
end
end L4
end
section
namespace L4
open PySem PySem.Spec PyProof.Rows L2 L3
section
variable {X:Cx}
end
end L4
end
section
namespace L4
open PySem PySem.Spec PyProof.Rows L2 L3 PySem.SeqAt
section
variable {X:Cx} {pins:List (Addr×Obj)} {σ:L2.St} {H:Hp} {s:Shared} {S:Addr->Prop}
def EqI (n:Nat) (d e:D) (b:Bool):Prop:=(∃ i j,d=.int i/\e=.int j/\b=decide (i=j))\/(∃ i,d=.bl i/\e=.bl i/\b=true)\/(∃ i,d=.str i/\e=.str i/\b=true) \/ ∃ m a c r,n=m+1/\d=.tup a/\e=.tup c/\u9 (eqP m) a c=some r/\b=(r&&decide (a.length=c.length))
##vZ:∀ {n:Nat} {d e:D} {b:Bool},eqP n d e=some b->EqI n d e b:=by
 intro n d e b h
 have one:∀ {p:Prop} [Decidable p],(if p then some true else none)=some b->p/\b=true:=fun {p} _ h=>by
  by_cases hp:p
  ·rw [if_pos hp] at h; cases h; !⟨hp,rfl⟩
  ·rw [if_neg hp] at h; !nomatch h
 cases n with
 | zero =>
  cases d<;>first | (cases h; done) | skip
  all_goals (cases e<;>first | (cases h; done) | skip)
  ·&⟨rfl,hb⟩:=one h
   !.inr (.inl ⟨_,rfl,rfl,hb⟩)
  ·cases h
   !.inl ⟨_,_,rfl,rfl,rfl⟩
  ·&⟨rfl,hb⟩:=one h
   !.inr (.inr (.inl ⟨_,rfl,rfl,hb⟩))
 | succ m =>
  cases d<;>first | (cases h; done) | skip
  all_goals (cases e<;>first | (cases h; done) | skip)
  ·&⟨rfl,hb⟩:=one h
   !.inr (.inl ⟨_,rfl,rfl,hb⟩)
  ·cases h
   !.inl ⟨_,_,rfl,rfl,rfl⟩
  ·&⟨rfl,hb⟩:=one h
   !.inr (.inr (.inl ⟨_,rfl,rfl,hb⟩))
  ·&⟨r,e1,rfl⟩:=tK (show (u9 (eqP m) _ _).map _=some b from h)
   !.inr (.inr (.inr ⟨m,_,_,r,rfl,rfl,rfl,e1,rfl⟩))
##VN (I:L2.Inv X pins σ H s):∀ (n:Nat) (d e:D) (x:V) (b:Bool),eqP n d e=some b->Dn X.K S H d x->Dn X.K S H e x->b=true:=by
 intro n
 induction n using Nat.strongRecOn with
 | ind n ih =>
  intro d e x b h hd he
  rcases vZ h with ⟨i,j,rfl,rfl,rfl⟩ | ⟨i,rfl,rfl,hb⟩ | ⟨i,rfl,rfl,hb⟩ | ⟨m,a,c,r,rfl,rfl,rfl,e1,rfl⟩
  ·simp only [Dn] at hd he
   rw [hd] at he
   cases he
   !decide_eq_true rfl
  ·!hb
  ·!hb
  ·simp only [Dn] at hd he
   &⟨p,xs,rfl,hp,da⟩:=hd
   &⟨q,ys,eq,hq,dc⟩:=he
   cases eq
   have:=I.mJ (gA.of hp) (gA.of hq)
   subst this
   &⟨f,h1,h2⟩:=mB e1
   have hl:a.length=c.length:=by rw [da.len,dc.len]
   rw [decide_eq_true hl,Bool.and_true,h2,List.all_eq_true]
   intro j hj
   have hj:j<min a.length c.length:=¥hj
   have ja:j<a.length:=Nat.lt_of_lt_of_le hj (Nat.min_le_left ..)
   have jc:j<c.length:=Nat.lt_of_lt_of_le hj (Nat.min_le_right ..)
   &⟨v,hv,dv⟩:=da.get (List.getElem?_eq_getElem ja)
   &⟨v2,hv2,dv2⟩:=dc.get (List.getElem?_eq_getElem jc)
   rw [hv] at hv2
   cases hv2
   !ih m (Nat.lt_succ_self m) _ _ v _ (h1 j _ _ (List.getElem?_eq_getElem ja) (List.getElem?_eq_getElem jc)) dv dv2
##VO (I:L2.Inv X pins σ H s):∀ (n:Nat) (A:Around) (d e:D) (x y:V) (u v:Value) (b:Bool),A.units+n<cLine->eqP n d e=some b->Dn X.K S H d x->Dn X.K S H e y->L2.RelV x u->L2.RelV y v->EqAt A s u v b:=by
 have onI:∀ (A:Around) (i j:Int) (x y:V) (u v:Value),Dn X.K S H (.int i) x->Dn X.K S H (.int j) y->L2.RelV x u->L2.RelV y v->EqAt A s u v (decide (i=j)):=by
  intro A i j x y u v hd he ru rv
  simp only [Dn] at hd he
  subst hd he
  &⟨t,rfl⟩:=ru
  &⟨t2,rfl⟩:=rv
  have:=(MeetsSeq.EqGives.int i j t t2).at A s
  rwa [show (i == j)=decide (i=j) from by simp [BEq.beq]] at this
 have onB:∀ (A:Around) (i j b:Bool) (x y:V) (u v:Value),(if i=j then some true else none)=some b->Dn X.K S H (.bl i) x->Dn X.K S H (.bl j) y->L2.RelV x u->L2.RelV y v->EqAt A s u v b:=by
  intro A i j b x y u v h hd he ru rv
  simp only [Dn] at hd he
  subst hd he
  split at h
  ·rename_i e
   cases h
   subst e
   cases ru
   cases rv
   !EqAt.same _
  ·cases h
 have onS:∀ (A:Around) (i j:Str) (b:Bool) (x y:V) (u v:Value),(if i=j then some true else none)=some b->Dn X.K S H (.str i) x->Dn X.K S H (.str j) y->L2.RelV x u->L2.RelV y v->EqAt A s u v b:=by
  intro A i j b x y u v h hd he ru rv
  simp only [Dn] at hd he
  subst hd he
  split at h
  ·rename_i e
   cases h
   subst e
   &⟨t,rfl⟩:=ru
   &⟨t2,rfl⟩:=rv
   have:=(PySem.SeqRoads2.EqGives.str i i t t2).at A s
   rwa [show (i.cps.toList == i.cps.toList)=true from by simp] at this
  ·cases h
 intro n
 induction n using Nat.strongRecOn with
 | ind n ih =>
  intro A d e x y u v b hu h hd he ru rv
  rcases vZ h with ⟨i,j,rfl,rfl,rfl⟩ | ⟨i,rfl,rfl,rfl⟩ | ⟨i,rfl,rfl,rfl⟩ | ⟨m,a,c,r,rfl,rfl,rfl,e1,rfl⟩
  ·!onI A _ _ x y u v hd he ru rv
  ·!onB A i i true x y u v (if_pos rfl) hd he ru rv
  ·!onS A i i true x y u v (if_pos rfl) hd he ru rv
  ·have hd0:=hd
   have he0:=he
   simp only [Dn] at hd he
   &⟨p,xs,rfl,hp,da⟩:=hd
   &⟨q,ys,rfl,hq,dc⟩:=he
   cases ru
   cases rv
   by_cases epq:p=q
   ·subst epq
    rw [VN I (m+1) _ _ _ _ h hd0 he0]
    !EqAt.same _
   ·&⟨f,h1,h2⟩:=mB e1
    &⟨its,rx,pt,_⟩:=I.tuple (gA.of hp)
    &⟨its2,ry,N8,_⟩:=I.tuple (gA.of hq)
    have l1:its.length=a.length:=by rw [<- rx.length,da.len]
    have l2:its2.length=c.length:=by rw [<- ry.length,dc.len]
    have key:=RcAt.tuples (A:=A) (s:=s) (e:=f) (show s.heap.IsTuple p its.toArray from pt) (show s.heap.IsTuple q its2.toArray from N8) ° fun j j1 j2=>by
     have j1:j<a.length:=by simpa [l1] using j1
     have j2:j<c.length:=by simpa [l2] using j2
     &⟨w,hw,dw⟩:=da.get (List.getElem?_eq_getElem j1)
     &⟨w2,hw2,dw2⟩:=dc.get (List.getElem?_eq_getElem j2)
     &⟨g,hg,rg⟩:=rx.get hw
     &⟨g2,hg2,rg2⟩:=ry.get hw2
     have e3:its.toArray[j]'(by simp; omega)=g:=by
      have:=(List.getElem?_eq_some_iff.mp hg).2
      simpa using this
     have e4:its2.toArray[j]'(by simp; omega)=g2:=by
      have:=(List.getElem?_eq_some_iff.mp hg2).2
      simpa using this
     rw [e3,e4]
     !ih m (Nat.lt_succ_self m) A.in1 _ _ w w2 g g2 _ (by show A.units+1+m<cLine; omega) (h1 j _ _ (List.getElem?_eq_getElem j1) (List.getElem?_eq_getElem j2)) dw dw2 rg rg2
    @EqAt.of_refs epq ?_
    rw [h2]
    simpa [l1,l2,BEq.beq] using key
def B0 (K:PySem.W.Frag) (g:Bool->Bool):R2:=fun x y H Q=>∃ (S:Addr->Prop) (a c:List D) (b:Bool),Dn K S H (.tup a) x/\Dn K S H (.tup c) y/\eqP 8 (.tup a) (.tup c)=some b/\Q (.bl (g b)) H
##PQ (hu:X.A.units+8<cLine):i6 X (compareOp .Eq) (B0 X.K id):=by
 intro pins s σ H x y v u Q I rx ry h
 &⟨S,a,c,b,hd,he,hb,q⟩:=h
 have hd0:=hd
 have he0:=he
 simp only [Dn] at hd he
 &⟨p,xs,rfl,hp,da⟩:=hd
 &⟨p2,ys,rfl,hq,dc⟩:=he
 cases rx
 cases ry
 &⟨r,e1,rfl⟩:=tK (show (u9 (eqP 7) a c).map _=some b from hb)
 &⟨f,h1,h2⟩:=mB e1
 &⟨its,rx,pt,_⟩:=I.tuple (gA.of hp)
 &⟨its2,ry,N8,_⟩:=I.tuple (gA.of hq)
 have l1:its.length=a.length:=by rw [<- rx.length,da.len]
 have l2:its2.length=c.length:=by rw [<- ry.length,dc.len]
 @eq_tupleAt (e:=f) (show s.heap.IsTuple p its.toArray from pt) (show s.heap.IsTuple p2 its2.toArray from N8) ° (fun j j1 j2=>?_) ⟨_,H,I,?_,q⟩
 ·have j1:j<a.length:=by simpa [l1] using j1
  have j2:j<c.length:=by simpa [l2] using j2
  &⟨w,hw,dw⟩:=da.get (List.getElem?_eq_getElem j1)
  &⟨w2,hw2,dw2⟩:=dc.get (List.getElem?_eq_getElem j2)
  &⟨g,hg,rg⟩:=rx.get hw
  &⟨g2,hg2,rg2⟩:=ry.get hw2
  have e3:its.toArray[j]'(by simp; omega)=g:=¥(List.getElem?_eq_some_iff.mp hg).2
  have e4:its2.toArray[j]'(by simp; omega)=g2:=¥(List.getElem?_eq_some_iff.mp hg2).2
  rw [e3,e4]
  !VO I 7 X.A.in1 _ _ w w2 g g2 _ (by show X.A.units+1+7<cLine; omega) (h1 j _ _ (List.getElem?_eq_getElem j1) (List.getElem?_eq_getElem j2)) dw dw2 rg rg2
 ·show L2.RelV (.bl _) (.bool _)
  simp only [L2.RelV,List.size_toArray,l1,l2,h2,id]
  congr 1
##VP (hu:X.A.units+8<cLine):i6 X (compareOp .Eq) (fun x y H Q=>rEq x y H Q\/B0 X.K id x y H Q):=by
 intro pins s σ H x y v u Q I rx ry h
 rcases h with h | h
 ·!TU pins s σ H x y v u Q I rx ry h
 ·!PQ hu pins s σ H x y v u Q I rx ry h
def aFt:F2:=fun x y Q=>∃ b,eqP 8 x y=some b/\Q (.bl b)
##VQ {K:PySem.W.Frag}:O3 K (fun x y H Q=>rEq x y H Q\/B0 K id x y H Q) aFt:=by
 intro S H x y dx dy Q3 Q fc hx hy hf k
 &⟨b,e,q⟩:=hf
 rcases vZ e with ⟨i,j,rfl,rfl,rfl⟩ | ⟨i,rfl,rfl,rfl⟩ | ⟨i,rfl,rfl,rfl⟩ | ⟨m,a,c,r,_,rfl,rfl,e1,rfl⟩
 ·!.inl (xQ S H x y (.int i) (.int j) Q3 Q fc hx hy ⟨rfl,q⟩ k)
 ·!.inl (xQ S H x y (.bl i) (.bl i) Q3 Q fc hx hy ⟨rfl,by rw [show eqS (.bl i) (.bl i)=true from decide_eq_true rfl]; !q⟩ k)
 ·!.inl (xQ S H x y (.str i) (.str i) Q3 Q fc hx hy ⟨rfl,by rw [show eqS (.str i) (.str i)=true from decide_eq_true rfl]; !q⟩ k)
 ·!.inr ⟨S,_,_,_,hx,hy,e,k _ H _ (Same.refl H) (by simp only [Dn]; rfl) q⟩
##B1:Tells aFt qE:=fun x y d Q e q=>by
 ~qE at e
 &⟨b,e1,rfl⟩:=tK e
 !⟨b,e1,q⟩
##aFu {a b:Expr} {fa fb:EF} {pos:Pos} (hu:X.A.units+9<cLine) (ha:bS X a fa) (hb:bS X b fb):bS X (.Compare a [.Eq] [b] pos) (aC qE fa fb):=cE (OS (VP (Nat.lt_of_succ_lt hu)) VQ ha hb (jQ _)) (iH B1)
##PU (hu:X.A.units+8<cLine):i6 X (compareOp .NotEq) (B0 X.K not):=by
 intro pins s σ H x y v u Q I rx ry h
 &⟨S,a,c,b,hd,he,hb,q⟩:=h
 have hd0:=hd
 have he0:=he
 simp only [Dn] at hd he
 &⟨p,xs,rfl,hp,da⟩:=hd
 &⟨p2,ys,rfl,hq,dc⟩:=he
 cases rx
 cases ry
 &⟨r,e1,rfl⟩:=tK (show (u9 (eqP 7) a c).map _=some b from hb)
 &⟨f,h1,h2⟩:=mB e1
 &⟨its,rx,pt,_⟩:=I.tuple (gA.of hp)
 &⟨its2,ry,N8,_⟩:=I.tuple (gA.of hq)
 have l1:its.length=a.length:=by rw [<- rx.length,da.len]
 have l2:its2.length=c.length:=by rw [<- ry.length,dc.len]
 @RcNeAt.tuples (e:=f) (show s.heap.IsTuple p its.toArray from pt) (show s.heap.IsTuple p2 its2.toArray from N8) ° (fun j j1 j2=>?_) X.prog X.w _ _ ⟨_,H,I,?_,q⟩
 ·have j1:j<a.length:=by simpa [l1] using j1
  have j2:j<c.length:=by simpa [l2] using j2
  &⟨w,hw,dw⟩:=da.get (List.getElem?_eq_getElem j1)
  &⟨w2,hw2,dw2⟩:=dc.get (List.getElem?_eq_getElem j2)
  &⟨g,hg,rg⟩:=rx.get hw
  &⟨g2,hg2,rg2⟩:=ry.get hw2
  have e3:its.toArray[j]'(by simp; omega)=g:=¥(List.getElem?_eq_some_iff.mp hg).2
  have e4:its2.toArray[j]'(by simp; omega)=g2:=¥(List.getElem?_eq_some_iff.mp hg2).2
  rw [e3,e4]
  !VO I 7 X.A.in1 _ _ w w2 g g2 _ (by show X.A.units+1+7<cLine; omega) (h1 j _ _ (List.getElem?_eq_getElem j1) (List.getElem?_eq_getElem j2)) dw dw2 rg rg2
 ·show L2.RelV (.bl _) (.bool _)
  simp only [L2.RelV,List.size_toArray,l1,l2,h2]
  congr 1
##aCz (hu:X.A.units+8<cLine):i6 X (compareOp .NotEq) (fun x y H Q=>rNe x y H Q\/B0 X.K not x y H Q):=by
 intro pins s σ H x y v u Q I rx ry h
 rcases h with h | h
 ·!TV pins s σ H x y v u Q I rx ry h
 ·!PU hu pins s σ H x y v u Q I rx ry h
def aFv:F2:=fun x y Q=>∃ b,eqP 8 x y=some b/\Q (.bl (!b))
##aDA {K:PySem.W.Frag}:O3 K (fun x y H Q=>rNe x y H Q\/B0 K not x y H Q) aFv:=by
 intro S H x y dx dy Q3 Q fc hx hy hf k
 &⟨b,e,q⟩:=hf
 rcases vZ e with ⟨i,j,rfl,rfl,rfl⟩ | ⟨i,rfl,rfl,rfl⟩ | ⟨i,rfl,rfl,rfl⟩ | ⟨m,a,c,r,_,rfl,rfl,e1,rfl⟩
 ·!.inl (xR S H x y (.int i) (.int j) Q3 Q fc hx hy ⟨rfl,q⟩ k)
 ·!.inl (xR S H x y (.bl i) (.bl i) Q3 Q fc hx hy ⟨rfl,by rw [show eqS (.bl i) (.bl i)=true from decide_eq_true rfl]; !q⟩ k)
 ·!.inl (xR S H x y (.str i) (.str i) Q3 Q fc hx hy ⟨rfl,by rw [show eqS (.str i) (.str i)=true from decide_eq_true rfl]; !q⟩ k)
 ·!.inr ⟨S,_,_,_,hx,hy,e,k _ H _ (Same.refl H) (by simp only [Dn]) q⟩
##PV:Tells aFv EV:=fun x y d Q e q=>by
 ~EV at e
 &⟨b,e1,rfl⟩:=tK e
 !⟨b,e1,q⟩
open Classical in
##aDB (x y d:D) (e:qE x y=some d):∃ b,d=.bl b:=by
 ~qE at e
 cases q:eqP 8 x y with
 | none=>rw [q] at e; cases e
 | some b=>rw [q] at e; cases e; !⟨_,rfl⟩
##aDC (x y d:D) (e:EV x y=some d):∃ b,d=.bl b:=by
 ~EV at e
 cases q:eqP 8 x y with
 | none=>rw [q] at e; cases e
 | some b=>rw [q] at e; cases e; !⟨_,rfl⟩
##aFw {a b:Expr} {fa fb:EF} {pos:Pos} (hu:X.A.units+9<cLine) (ha:bS X a fa) (hb:bS X b fb):vH X (.Compare a [.Eq] [b] pos) (tV (aC qE fa fb)):=cT (p7 (VP (Nat.lt_of_succ_lt hu)) VQ ha hb (jQ _)) (p8 B1 aDB)
##aFx {a b:Expr} {fa fb:EF} {pos:Pos} (hu:X.A.units+9<cLine) (ha:bS X a fa) (hb:bS X b fb):vH X (.Compare a [.NotEq] [b] pos) (tV (aC EV fa fb)):=cT (p7 (aCz (Nat.lt_of_succ_lt hu)) aDA ha hb (jQ _)) (p8 PV aDC)
end
end L4
end
section
namespace L4
open PySem PySem.Spec PyProof.Rows L2 L3
section
variable {X:Cx}
##aFy (i:Nat) {st:Stmt} {f:SF} (h:tJ X st f):tJ X st (XE i f) :=
 j3 h fun B σ H aFz=>by &⟨H₀,S,w,ρ,G,E,hl,st,ht,ok⟩:=aFz; !⟨H₀,S,w,freeze ρ i,G,E,hl,st.frozen,ht,ok⟩
end
end L4
end
section
namespace L5
open PySem PySem.Spec PyProof.Rows L2 L3 L4
##B2 {P:Program} {w:World} {H:Hp} {h:Heap} {a:Addr} {o:HO} (x:eA P w H h a o):∃ u,h.get? a=some u:=by
 cases o with
 | lst xs=>&⟨_,_,_,_,e⟩:=x; !⟨_,e⟩
 | tup xs=>&⟨_,_,_,u,e,_⟩:=x; !⟨_,e⟩
 | dK kvs=>&⟨_,_,_,_,o,_,_,e,_⟩:=x; !⟨_,e⟩
 | dT kvs=>&⟨_,_,_,_,o,_,_,e,_⟩:=x; !⟨_,e⟩
 | dX ob kvs=>&⟨_,_,e,_⟩:=x; !⟨_,e⟩
 | set S n=>&⟨o,_,_,_,e,_⟩:=x; !⟨_,e⟩
 | ins C dx fs=>&⟨_,_,_,e,_⟩:=x; !⟨_,e⟩
 | own y=>&⟨_,e⟩:=x; !⟨_,e⟩
 | xd fs=>&⟨_,⟨_,_,_,e,_⟩,_⟩:=x; !⟨_,e⟩
 | rng lo hi=>&⟨_,_,_,e⟩:=x; !⟨_,e⟩
 | HL ob u=>&⟨e,_⟩:=x; !⟨_,e⟩
 | tbl ps=>!⟨_,(show h.get? a=some _ from x)⟩
 | met f y=>!⟨_,(show h.get? a=some _ from x)⟩
 | ext φ=>&⟨_,⟨_,e⟩,_⟩:=x; !⟨_,e⟩
section
variable {X:Cx} {pins:List (Addr×Obj)} {σ:L2.St} {H:Hp} {s:Shared} {h':Heap} {e:Addr} {cls a0:Value} {P:List Addr}
##flown (I:Inv X pins σ H s) (T:D1 X pins H s e cls a0 P) (kp:∀ b o,b∉P->b∉frs X.stack->s.heap.get? b=some o->h'.get? b=some o) (us:s.heap.UpToSlots h'):Inv X pins σ H { s with heap:=h' }:=by
 have frame:∀ b∈frs X.stack,∃ o,s.heap.get? b=some o /\ ∀ vs,o.data≠.fields vs:=fun b hb=>(I.stack.mem hb).2
 have old:∀ b o,X.s₀.heap.get? b=some o->b∉P:=fun b o q hb=>by rw [T.new b hb] at q; cases q
 have aLv:∀ b o,X.s₀.heap.get? b=some o->b≠X.env.locals:=fun b o q=>Nat.ne_of_lt (Nat.lt_of_lt_of_le (Heap.lt_size q) I.ok.above)
 have cellK:∀ c v,s.heap.IsCell c v->h'.IsCell c v:=fun c v aGA=>by
  &⟨o,ho,hd⟩:=aGA
  &⟨sl,q⟩:=us c o ho fun vs z=>by rw [hd] at z; cases z
  !⟨_,q,hd⟩
 &⟨m,hn,hl⟩:=id I.loc
 @⟨I.ok,I.os,I.bare,⟨fun b o eb n hb hx=>?_,fun b o eb n hb hx=>?_,I.base.free,fun b o eb hx=>?_,I.base.tups,I.base.sB,I.base.t4⟩,⟨m,us.ns hn,fun i x v h1 h2 h3=>?_⟩,fun x c ec=>?_,I.free,I.mI,fun p hp=>?_,fun b ob eb=>?_,I.len⟩
 ·!kp b o (old b o eb) (fun z=>(List.mem_cons.mp (I.qO b z)).elim (aLv b o eb) hb) (I.base.keep b o eb n hb hx)
 ·&⟨sl,q⟩:=I.base.slot b o eb n hb hx
  &⟨_,o2,e2,nf⟩:=I.ok.vD.mem hb
  rw [eb] at e2
  obtain rfl:=Option.some.inj e2
  &⟨sl2,q2⟩:=us b { o with slots:=sl } q nf
  !⟨sl2,q2⟩
 ·&⟨o',q⟩:=I.base.there b o eb hx
  by_cases hf:b∈frs X.stack
  ·&⟨o2,e2,nf⟩:=frame b hf
   &⟨sl,q2⟩:=us b o2 e2 nf
   !⟨_,q2⟩
  ·!⟨o',kp b o' (old b o eb) hf q⟩
 ·&⟨u,r,l⟩:=hl i x v h1 h2 h3
  !⟨u,r,l.imp id fun ⟨k,c,ec,ic⟩=>⟨k,c,ec,cellK _ _ ic⟩⟩
 ·&⟨v,ic⟩:=I.cell x c ec
  !⟨v,cellK _ _ ic⟩
 ·&⟨q,n,ne,nf,d⟩:=I.pin p hp
  !⟨kp _ _ (fun z=>T.pin _ z p hp rfl) (fun z=>(List.mem_cons.mp (I.qO _ z)).elim ne nf) q,n,ne,nf,d⟩
 ·@(I.hok b ob eb).stay (fun c u hc q=>kp c u (fun z=>?_) (fun z=>?_) q) (fun _ q=>q) fun _ _ q=>q
  ·have fr:=T.free c z
   rcases hc with rfl | hc
   ·rw [fr] at eb; cases eb
   ·rw [fr] at hc; cases hc
  ·have fr:=I.DJ c z
   rcases hc with rfl | hc
   ·rw [fr] at eb; cases eb
   ·rw [fr] at hc; cases hc
end
def zK (P:Program) (w:World):OH:=fun outer H s E e s'=>∃ (ea T:Addr) (cls a0:Value) (H':Hp) (oe oT:Obj) (vs ts:Array Value),e=.ref ea/\s'.os=s.os/\AllBare s'.gens/\Un (frs outer) [] H H' s.heap s'.heap/\pU P w H' s'.heap /\
 H' ea=none/\H' T=none/\s.heap.get? ea=none/\s.heap.get? T=none/\T≠ea/\s'.heap.get? ea=some oe/\(oe.cls=cls/\vs[0]? = some a0)/\oe.data=.fields vs/\vs[1]? = some (.ref T)/\s'.heap.get? T=some oT/\oT.data=.fields ts/\ts[3]? = some .none/\E cls none H'
section
variable {P:Program} {w:World} {K:PySem.W.Frag} {mg:Str->Option Value} {base:Heap} {N:List Str} {qual:Str} {scope:Scope} {f:Addr} {cd:Value} {A:Around} {outer:List Env} {s0:Shared} {H0:Hp} {E:XK}
##VR {pins:List (Addr×Obj)} {σ:L2.St} {H:Hp} {s:Shared} {e:Addr} {cls a0:Value} {Q:List Addr} (I:Inv (t6 (zK P w) P w K mg base N qual scope f cd A outer s0 H0 E) pins σ H s)
  (T:D1 (t6 (zK P w) P w K mg base N qual scope f cd A outer s0 H0 E) pins H s e cls a0 Q) (hE:E cls none H):(t6 (zK P w) P w K mg base N qual scope f cd A outer s0 H0 E).xe (.ref e) s:=by
 generalize hX:t6 (zK P w) P w K mg base N qual scope f cd A outer s0 H0 E=X at I T
 have st:X.stack=X.env::outer:=by rw [<- hX]; rfl
 have hin:∀ env∈X.stack,∀ b,env.frame=some b->b∈Q++frs X.stack:=fun env he b hb=>List.mem_append_right _ (List.mem_filterMap.mpr ⟨env,he,hb⟩)
 have stay:(PySem.W.hideAll s.heap (Q++frs X.stack)).StaysIn s.heap:=fun b o q=>PySem.W.of_hideAll _ q
 have fns:s.heap.FunFrames (PySem.W.hideAll s.heap (Q++frs X.stack)) X.stack:=PySem.W.funFrames_hide I.stack hin
 have hen:(PySem.W.hideAll s.heap (Q++frs X.stack)).get? e=none:=PySem.W.hideAll_none _ (List.mem_append_left _ T.mem)
 have fin:∀ h',Heap.LeftW (PySem.W.hideAll s.heap (Q++frs X.stack)) X.stack e cls a0 s.heap h'->zK P w outer H0 s0 E (.ref e) { s with heap:=h' }:=fun h' aGB=>by
  &⟨k1,k2,k3,k4⟩:=aGB
  have J:=flown I T (fun b o n1 n2 q=>k1 b o (PySem.W.hideAll_get _ q fun z=>(List.mem_append.mp z).elim n1 n2)) k4
  &⟨oe,vs,T2,oT,ts,he,hc,hd,h1,hnT,hTe,hT,hdT,h3⟩:=k3
  have hfr:T2∉frs X.stack:=fun z=>by
   &⟨_,o,ho,nf⟩:=I.stack.mem z
   &⟨sl,q⟩:=k4 T2 o ho nf
   rw [hT] at q
   cases q
   !nf ts hdT
  have hT2:T2∈Q\/s.heap.get? T2=none:=by
   by_cases hq:T2∈Q
   ·!.inl hq
   ·right
    cases q:s.heap.get? T2 with
    | none=>rfl
    | some o =>
     have:=PySem.W.hideAll_get (Q++frs X.stack) q fun z=>(List.mem_append.mp z).elim hq hfr
     rw [hnT] at this
     cases this
  have e1:X.fs=frs outer:=by rw [<- hX]; rfl
  have e2:X.ex=[]:=by rw [<- hX]; rfl
  have e3:X.H₀=H0:=by rw [<- hX]; rfl
  have e4:X.s₀=s0:=by rw [<- hX]; rfl
  have e5:X.prog=P:=by rw [<- hX]; rfl
  have e6:X.w=w:=by rw [<- hX]; rfl
  have b0:=J.base
  have b1:=J.hok
  have b2:=J.os
  rw [e1,e2,e3,e4] at b0
  rw [e5,e6] at b1
  rw [e4] at b2
  @⟨e,T2,cls,a0,H,oe,oT,vs,ts,rfl,b2,J.bare,b0,b1,T.free e T.mem,?_,?_,?_,hTe,he,hc,hd,h1,hT,hdT,h3,hE⟩
  ·rcases hT2 with z | z
   ·!T.free _ z
   ·cases q:H T2 with
    | none=>rfl
    | some o =>
     &⟨u,eu⟩:=B2 (I.hok _ _ q)
     rw [z] at eu; cases eu
  ·rw [<- e4]; !T.new e T.mem
  ·rcases hT2 with z | z
   ·rw [<- e4]; !T.new _ z
   ·cases q:s0.heap.get? T2 with
    | none=>rfl
    | some o =>
     have tb:=I.base.there T2 o (by rw [e4]; !q) (by rw [e2]; simp)
     &⟨o',eo⟩:=tb
     rw [z] at eo; cases eo
 have go:wpAny (model P w) X.A (leaving X.env (.ref e)) (fun _ s''=>zK P w outer H0 s0 E (.ref e) s'') (fun e' s''=>zK P w outer H0 s0 E e' s'') s:=by
  have hfr:=I.ok.frames
  have hf:X.env.frame=some X.env.locals:=by rw [<- hX]; rfl
  rw [st] at hfr
  rw [st] at fns fin hen stay
  rcases T.tr with ⟨oe,vs,he,hc,hd,h1,h0⟩ | ⟨oe,vs,T2,oT,ts,he,hc,hd,h1,hm,hTe,hT,hdT,h3⟩
  ·subst hc
   !wpAny_leaving_firstW hfr fns hf he stay hen hd h1 h0 fun h' L=>fin h' L
  ·@wpAny_leaving_nextW hfr fns hf ⟨oe,vs,T2,oT,ts,he,hc,hd,h1,PySem.W.hideAll_none _ (List.mem_append_left _ hm),hTe,hT,hdT,h3⟩ stay hen fun h' L=>fin h' L
 rw [<- hX] at go ⊢
 !go
end
##GQ {X:Cx} {pins:List (Addr×Obj)} {σ:L2.St} {H:Hp} {s s':Shared} {E:XK} {e:Value} (hx:X.ex=[]) (I:Inv X pins σ H s) (c:zK X.prog X.w X.stack H s E e s') :
  ∃ ea cls a0 H' Q,e=.ref ea/\Inv X pins σ H' s'/\D1 X pins H' s' ea cls a0 Q/\E cls none H':=by
 &⟨ea,T,cls,a0,H',oe,oT,vs,ts,rfl,os,bare,un,hok,n1,n2,g1,g2,hTe,he,hc,hd,h1,hT,hdT,h3,hE⟩:=c
 have J:Inv X pins σ H' s':=I.call' (ch:=[]) os un hok bare fun b z=>absurd z (by simp)
 have no:∀ q,q∈[ea,T]->s.heap.get? q=none:=fun q hq=>by
  rcases List.mem_cons.1 hq with rfl | hq
  ·!g1
  ·rw [List.mem_singleton.mp hq]; !g2
 @⟨ea,cls,a0,H',[ea,T],rfl,J,⟨List.mem_cons_self,fun q hq=>?_,fun q hq=>?_,fun q hq=>?_,fun q hq p hp z=>?_,.inr ⟨oe,vs,T,oT,ts,he,hc,hd,h1,by simp,hTe,hT,hdT,h3⟩⟩,hE⟩
 ·rcases List.mem_cons.1 hq with rfl | hq
  ·!n1
  ·rw [List.mem_singleton.mp hq]; !n2
 ·cases k:X.s₀.heap.get? q with
  | none=>rfl
  | some o =>
   &⟨o',eo⟩:=I.base.there q o k (by rw [hx]; simp)
   rw [no q hq] at eo; cases eo
 ·rcases List.mem_cons.1 hq with rfl | hq
  ·!⟨oe,vs,he,hd⟩
  ·rw [List.mem_singleton.mp hq]; !⟨oT,ts,hT,hdT⟩
 ·have:=(I.pin p hp).1
  rw [z,no q hq] at this; cases this
def M0 (K:PySem.W.Frag) (mg:Str->Option Value) (R:eT):Sp:=fun vs H Q E=>∃ (S:Addr->Prop) (ds:List D),(∀ a,H a=none->S a)/\bC K S H ds vs/\match R ds with
 | .ok d=>∀ v H',Same H H'->Dn K S H' d v->Q v H'
 | .ex c=>∃ C:Addr,mg c=some (.ref C) /\ ∀ H',Same H H'->E (.ref C) none H'
 | .no=>False
##aDD {P:Program} {w:World} {K:PySem.W.Frag} {mg:Str->Option Value} {base:Heap} {x qual:Str} {st:Stmt} {f:Addr} {fd:FuncData} {N ps:List Str} {k n np:Nat} {b:SF} (F:nU K x qual st f fd) (S:bH N ps (aI st)) (hn:N.length=n) (hp:ps.length=np)
  (hbody:∀ (cdv:Value) (A:Around) (outer:List Env) (s:Shared) (H:Hp) (E:XK),lA k (A.deeper (envOfC qual (aI st) s.heap.objs.size f cdv)) ->
   z0 (t6 (zK P w) P w K mg base N qual (aI st) f cdv A outer s H E) (bE st) b):aW P w K mg base (zK P w) (k+1) f fd ps (M0 K mg (bK n np b)):=by
 subst hn hp
 &⟨oc,od,kV,doc,pm,an,cdv,ct,osl,rfl,lk,hcd⟩:=F.ex
 have hlen:∀ ds:List D,bK N.length ps.length b ds≠.no->ds.length=ps.length:=fun ds h=>by
  by_cases e:ds.length=ps.length
  ·!e
  ·!absurd (show bK N.length ps.length b ds=.no by ~bK; rw [if_neg e]) h
 @aA9 lk hcd S (fun vs H Q E h=>?_) fun A outer s H vs Q E hr h=>?_
 ·&⟨S',ds,_,dn,hR⟩:=h
  rw [<- dn.len]
  !hlen ds fun z=>by rw [z] at hR; !hR
 ·&⟨S',ds,fc,dn,hR⟩:=h
  have hl:ds.length=ps.length:=hlen ds fun z=>by rw [z] at hR; !hR
  have hdn:=dn.len
  @⟨_,hbody cdv A outer s H E hr,H,S',fun _=>0,lO N ds,[],{ nx:=fun _=>bK N.length ps.length b ds=.ok .non,rt:=fun d=>bK N.length ps.length b ds=.ok d,ex:=fun c=>bK N.length ps.length b ds=.ex c },?_,GB fc dn,?_,⟨fun w' σ' H' ρ' _ st' q=>?_,fun v H' d s' d' q=>?_,fun _ _ _ _ _ _ q=>q,fun _ _ _ _ _ _ q=>q,fun c H' sm q=>?_⟩⟩
  ·have hp:ps.length<=N.length:=by have:=congrArg List.length S.pre; rw [List.length_take] at this; omega
   ~L2.start
   show _=N.length
   rw [List.length_append,List.length_map,List.length_replicate]
   omega
  ·have e2:lO N ds=fA N.length ds:=rfl
   have e3:bK N.length ps.length b ds=(match b (fA N.length ds) with | .rt d=>.ok d | .nx _=>.ok .non | .ex c=>.ex c | .no=>.no):=by ~bK; rw [if_pos hl]<;>cases b (fA N.length ds)<;>rfl
   rw [e3] at hR
   ~wS
   rw [e2]
   cases hb:b (fA N.length ds) with
   | rt d'=>rw [hb] at e3; !e3
   | nx ρ=>rw [hb] at e3; !e3
   | ex c=>rw [hb] at e3; !e3
   | no=>rw [hb] at hR; !hR
  ·rw [q] at hR
   !hR .non H' st'.sm (by simp only [Dn])
  ·rw [q] at hR
   !hR v H' s' d'
  ·rw [q] at hR
   &⟨C,hm,hE⟩:=hR
   !⟨C,hm,fun pins σ s' e a0 P I T=>VR I T (hE H' sm)⟩
section
variable {X:Cx} {k:Nat} {f:Addr} {fd:FuncData} {ps:List Str} {R:eT} {x:Str} {p pos:Pos} {e:Expr} {es:List Expr} {t:AF}
##B3 (F:aW X.prog X.w X.K X.mg X.base (zK X.prog X.w) k f fd ps (M0 X.K X.mg R)) (hr:lA k X.A) (hm:X.mg x=some (.ref f)) (hk:PySem.W.keepIn X.K (.ref f)=true) (hb:Binds X.K fd ps [])
  (ha:zZ X (e::es) t) (hg:Gl X x:=by rfl) (hdb:(x == ("__debug__" : Str))=false:=by decide) (he:starEach (e::es) X.env=(false,eval e X.env)::starEach es X.env:=by rfl) (hpl:(backTo pos (starEach es X.env)).any (·.1)=false:=by rfl) :
  bS X (.Call (.Name x p) (e::es) [] pos) (aG R t):=imp (DO (E:=E0) F hr hg hm hk hb .nil (fun pins σ H s e s' _ c=>by &⟨_,_,_,_,_,_,_,_,_,_,_,_,_,_,_,_,_,_,_,_,_,_,_,_,_,_,hE⟩:=c; !hE.elim) ha hdb he hpl) fun σ H Q aGC=>by
 &⟨S,ρ,Q3,fc,sl,⟨d,ed,q3⟩,k⟩:=aGC
 &⟨ds,et,ed⟩:=bnd ed
 @⟨S,ρ,fun z=>z=ds,fc,sl,⟨ds,et,rfl⟩,fun vs H1 ds' s1 d1 q1=>?_⟩
 subst q1
 show M0 X.K X.mg R (vs++[]) H1 Q E0
 rw [List.append_nil]
 @⟨S,ds',bP fc s1,d1,?_⟩
 cases h:R ds' with
 | ok d'=>rw [h] at ed; cases ed; !fun v H' s' d'=>k v H' _ (s1.trans s') d' q3
 | no=>rw [h] at ed; cases ed
 | ex c=>rw [h] at ed; cases ed
def tR (X:Cx) (r:RF):TE:=fun σ H _=>∃ (S:Addr->Prop) (ρ:bR) (c:Str),(∀ a,H a=none->S a)/\Sl X.K S H ρ σ/\r ρ=some c /\ ∀ H',Same H H'->XC X c H'
def PR (X:Cx) (e:Expr) (r:RF):Prop:=PE X e (tR X r)
##JW (hx:X.ex=[]) (F:aW X.prog X.w X.K X.mg X.base (zK X.prog X.w) k f fd ps (M0 X.K X.mg R)) (hr:lA k X.A) (hm:X.mg x=some (.ref f)) (hk:PySem.W.keepIn X.K (.ref f)=true) (hb:Binds X.K fd ps [])
  (ha:zZ X (e::es) t) (hg:Gl X x:=by rfl) (hdb:(x == ("__debug__" : Str))=false:=by decide) (he:starEach (e::es) X.env=(false,eval e X.env)::starEach es X.env:=by rfl) (hpl:(backTo pos (starEach es X.env)).any (·.1)=false:=by rfl) :
  PR X (.Call (.Name x p) (e::es) [] pos) (wH R t):=imp (DO (E:=fun cls _ H'=>∃ c C,cls=.ref C/\X.mg c=some (.ref C)/\XC X c H') F hr hg hm hk hb .nil (fun pins σ H s e s' I c=>by
   &⟨ea,cls,a0,H',Q,rfl,J,T,c,C,rfl,hmc,C2,hm2,xc⟩:=GQ hx I c
   rw [hmc] at hm2
   cases hm2
   !xc pins σ s' ea a0 Q J T) ha hdb he hpl) fun σ H Q aGD=>by
 &⟨S,ρ,c,fc,sl,ec,k⟩:=aGD
 &⟨ds,et,ed⟩:=bnd ec
 @⟨S,ρ,fun z=>z=ds,fc,sl,⟨ds,et,rfl⟩,fun vs H1 ds' s1 d1 q1=>?_⟩
 subst q1
 rw [List.append_nil]
 @⟨S,ds',bP fc s1,d1,?_⟩
 cases h:R ds' with
 | ex c' =>
  rw [h] at ed
  cases ed
  &⟨C,hmC,_⟩:=k H1 s1
  !⟨C,hmC,fun H' sm=>⟨c,C,rfl,hmC,k H' (s1.trans sm)⟩⟩
 | ok d=>rw [h] at ed; cases ed
 | no=>rw [h] at ed; cases ed
##VS {e:Expr} {t u:TE} (h1:PE X e t) (h2:PE X e u):PE X e (fun σ H Q=>t σ H Q\/u σ H Q):=fun pins s σ H Q I h=>h.elim (h1 pins s σ H Q I) (h2 pins s σ H Q I)
##aGE {e:Expr} {f:EF} {r:RF} {pos:Pos} (h:bS X e f) (hr:PR X e r):tJ X (.Return (some e) pos) (wJ r (aU f)):=j3 (TL (VS hr h)) fun B σ H aGF=>by
 &⟨H₀,S,w,ρ,G,E,hl,st,ht,ok⟩:=aGF
 ~wS wJ at ht
 cases hc:r (bT ρ) with
 | some c =>
  rw [hc] at ht
  !.inl ⟨S,bT ρ,c,st.OQ,st.all,hc,fun H' sm=>ok.ex c H' (st.sm.trans sm) ht⟩
 | none =>
  rw [hc] at ht
  dsimp only at ht
  ~aU at ht
  cases hf:f (bT ρ) with
  | none=>rw [hf] at ht; !ht.elim
  | some d =>
   rw [hf] at ht
   !.inr ⟨S,bT ρ,_,st.OQ,st.all,⟨d,hf,ht⟩,fun v H' d s' d' q'=>ok.rt v H' d (st.sm.trans s') d' q'⟩
##VT {e:Expr} {f:EF} {r:RF} {pos:Pos} (h:bS X e f) (hr:PR X e r) (hs:swapsWith e none pos.line X.env=pure false:=by rfl):tJ X (.Expr e pos) (wJ r (sX (aZ f))):=j3 (L1 (VS hr h) hs) fun B σ H aGG=>by
 &⟨H₀,S,w,ρ,G,E,hl,st,ht,ok⟩:=aGG
 ~wS wJ at ht
 cases hc:r (bT ρ) with
 | some c =>
  rw [hc] at ht
  !.inl ⟨S,bT ρ,c,st.OQ,st.all,hc,fun H' sm=>ok.ex c H' (st.sm.trans sm) ht⟩
 | none =>
  rw [hc] at ht
  dsimp only at ht
  ~sX aZ at ht
  cases hf:f (kD ρ) with
  | none=>rw [hf] at ht; !ht.elim
  | some d =>
   rw [hf] at ht
   !.inr ⟨_,kD ρ,_,st.UM,st.rd,⟨d,hf,ht⟩,fun v H' d s' d' q'=>ok.nx w σ H' ρ hl (st.same s') q'⟩
end
abbrev bmV:List Value:=[.type "ValueError",.type "Exception",.type "BaseException",.type "object"]
structure VU (K:PySem.W.Frag) (C:Addr):Prop where
 ex:∃ nm q N bs bm hdct sn sub ab col dd k0 k1 k2 k3 k5,K.lookup C=some (excClassObj nm q C N bs bm hdct sn sub ab col dd k0 k1 k2 k3 k5 "ValueError.__new__")/\PySem.W.tailIn K bmV bm=true/\PySem.W.nsOkIn K N=true/\PySem.W.nsIn K N "__init__" = some none
section
variable {X:Cx}
##JX {c:Str} {C:Addr} {e:Expr} {es:List Expr} {t:AF} {np cpos pos:Pos} (hx:X.ex=[]) (hcalm:X.calm=true) (hm:X.mg c=some (.ref C)) (hC:VU X.K C) (ha:zZ X (e::es) t) (hg:Gl X c:=by rfl) (hd:(c == ("__debug__" : Str))=false:=by decide)
  (he:starEach (e::es) X.env=(false,eval e X.env)::starEach es X.env:=by rfl) (hpl:(backTo cpos (starEach es X.env)).any (·.1)=false:=by rfl) :
  tJ X (.Raise (some (.Call (.Name c np) (e::es) [] cpos)) none pos) (rN t c):=by
 intro pins s σ H B I ⟨H₀,S,w,ρ,G,E,hl,st,ht,ok⟩
 ~wS rN at ht
 cases et:t (bT ρ) with
 | none=>rw [et] at ht; !ht.elim
 | some ds =>
  rw [et] at ht
  dsimp only at ht
  by_cases h10:ds.length<=10
  ·rw [if_pos h10] at ht
   &⟨nm,q,N,bs,bm,hdct,sn,sub,ab,col,dd,k0,k1,k2,k3,k5,lk,tl,no,ni⟩:=hC.ex
   @wpAny_Raise_call_subT (C:=C) (nm:=nm) (q:=q) (N:=N) (bs:=bs) (bm:=bm) (hdct:=hdct) (sn:=sn) (sub:=sub) (ab:=ab) (col:=col) (dd:=dd) (k0:=k0) (k1:=k1) (k2:=k2) (k3:=k3) (k5:=k5) (mN:=X.base.nsMap N)
    PySem.F.excBase_ValueError ((PySem.W.tail_of_in I.zH tl).hasType rfl) (I.ok.hd hcalm) (by rw [he]; show (false||(backTo cpos (starEach es X.env)).any (·.1))=false; rw [hpl]; rfl) (PySem.W.nsMap_none_of_in I.ok.mod.kin no ni) (DK I hg hm ⟨rfl,?_⟩ hd)
   have hN:X.base.Ns N (X.base.nsMap N):=.of_isNs (PySem.W.isNs_of_in I.ok.mod.kin no)
   have args:=ha cpos pins s σ H (fun vs H1=>vs.length=ds.length/\Same H H1) I ⟨S,bT ρ,fun z=>z=ds,st.OQ,st.all,⟨ds,et,rfl⟩,fun vs H1 ds' s1 d1 q1=>⟨by rw [<- d1.len,q1],s1⟩⟩
   rw [he] at args ⊢
   @Calls.evalArgs_plain (wpAny_mono args (fun us s1 ⟨vs,H1,I1,r,hlen,sm⟩=>?_) fun _ _ z=>z)
   @⟨rfl,?_,I1.zH _ _ lk,hN.keeps I1.bk,PySem.W.tail_of_in I1.zH tl,fun h' ea mk=>?_⟩
   ·show us.length<=sizeLine
    rw [<- r.length,hlen]
    !Nat.le_trans h10 §
   ·&⟨C',hm',xc⟩:=ok.ex c H1 (st.sm.trans sm) ht
    rw [hm] at hm'
    cases hm'
    &⟨tt,oe,_,_⟩:=mk.there
    have I2:Inv X pins σ H1 { s1 with heap:=h' }:=I1.kept (t':=s1.toks) mk.keeps
    @xc pins σ _ ea (.ref tt) [ea] I2 ⟨List.mem_cons_self,fun q hq=>?_,fun q hq=>?_,fun q hq=>?_,fun q hq p hp z=>?_,.inl ⟨_,_,oe,rfl,rfl,rfl,rfl⟩⟩
    ·rw [List.mem_singleton.1 hq]
     cases k:H1 ea with
     | none=>rfl
     | some o =>
      &⟨u,eu⟩:=B2 (I1.hok _ _ k)
      rw [mk.new] at eu; cases eu
    ·rw [List.mem_singleton.1 hq]
     cases k:X.s₀.heap.get? ea with
     | none=>rfl
     | some o =>
      &⟨o',eo⟩:=I1.base.there ea o k (by rw [hx]; simp)
      rw [mk.new] at eo; cases eo
    ·rw [List.mem_singleton.1 hq]
     !⟨_,_,oe,rfl⟩
    ·have:=(I1.pin p hp).1
     rw [z,List.mem_singleton.mp hq,mk.new] at this; cases this
  ·rw [if_neg h10] at ht; !ht.elim
end
end L5
end
section
namespace L5
open PySem PySem.Spec PyProof.Rows L2 L3 L4 PySem.W Builtin.ObjectAttr Builtin.Getset_descriptor
structure aR5 (K:PySem.W.Frag) (C:Addr):Prop where
 hc:isClsIn K C=true
 hm:mroIn K C (.type "object")=some true
 hs:subIn K (.ref C) (.type "BaseException")=some true
 hga:findIn K (.ref C) "__getattribute__" = some (some (.builtin "BaseException.__getattribute__"))
 hgg:findIn K (.ref C) "__getattr__" = some none
 ha:findIn K (.ref C) "__class__" = some (some (.builtin "object.__class__"))
 hn:specialIn K (.builtin "object.__class__") "__get__" = some (some (.builtin "getset_descriptor.__get__"))
 ht:takesIn K (.builtin "object.__class__")=some true
section
variable {prog:Program} {w:World} {A:Around} {E:Value->Shared->Prop} {s:Shared} {K:PySem.W.Frag} {a C:Addr}
end
end L5
end
section
namespace L5
open PySem PySem.Spec PyProof.Rows L2 L3 L4
section
variable {X:Cx}
end
section
variable {X:Cx} {pins:List (Addr×Obj)} {σ:L2.St} {H:Hp} {s:Shared}
end
section
variable {X:Cx}
end
section
variable {X:Cx}
##oP {p:Prop} (h:false=true):p:=nomatch h
def ExI (mro:List Value) (sl:List (Option Value)) (P:Addr->List Value->String->Bool):Prop:=∃ C1 bm y0 y1 y2 y3 n y5,mro=.ref C1::bm/\sl=[y0,y1,y2,y3,some (.builtin n),y5]/\P C1 bm n=true
##PX {mro:List Value} {sl:List (Option Value)} {P:Addr->List Value->String->Bool} (h:PySem.W.excIn.match_1 (fun _ _=>Bool) mro sl (fun C1 bm _ _ _ _ n _=>P C1 bm n) (fun _ _=>false)=true) :
  ExI mro sl P:=by
 cases mro with
 | nil=>!oP h
 | cons v bm =>
 cases v with
 | ref C1 =>
  cases sl with
  | nil=>!oP h
  | cons y0 sl =>
  cases sl with
  | nil=>!oP h
  | cons y1 sl =>
  cases sl with
  | nil=>!oP h
  | cons y2 sl =>
  cases sl with
  | nil=>!oP h
  | cons y3 sl =>
  cases sl with
  | nil=>!oP h
  | cons y4 sl =>
  cases y4 with
  | none=>!oP h
  | some w =>
  cases w with
  | builtin n =>
   cases sl with
   | nil=>!oP h
   | cons y5 sl =>
   cases sl with
   | cons z sl=>!oP h
   | nil=>!⟨C1,bm,y0,y1,y2,y3,n,y5,rfl,rfl,h⟩
  | _=>!oP h
 | _=>!oP h
##D8 {K:PySem.W.Frag} {C:Addr} (h:PySem.W.excIn K C bmV "ValueError.__new__" = true):VU K C:=by
 ~PySem.W.excIn at h
 split at h
 ·rename_i dd cd sl lk
  &⟨C1,bm,y0,y1,y2,y3,n,y5,e1,e2,h⟩:=PX h
  &⟨a1,a2,a3,a4,a5,a6,a7,a8,a9,a10,a11⟩:=cd
  &⟨sl⟩:=sl
  dsimp only at e1 e2 h
  subst e1 e2
  simp only [Bool.and_eq_true,beq_iff_eq,Bool.not_eq_true'] at h
  &⟨⟨⟨⟨⟨g1,g2⟩,g3⟩,g4⟩,g5⟩,g6⟩:=h
  subst g1 g2 g3
  !⟨⟨a1,a5,a4,a2,bm,a6,a7,a8,a9,a10,dd,y0,y1,y2,y3,y5,lk,g4,g5,g6⟩⟩
 ·cases h
end
end L5
end
section
namespace L5
open PySem PySem.Spec PyProof.Rows L2 L3 L4 PySem.W
variable {K:PySem.W.Frag} {C D:Addr}
structure VW (K:PySem.W.Frag) (C D:Addr):Prop where
 ne:(Value.ref C == Value.ref D)=false
 c:isClsIn K D=true
 t:typeIn K (.ref D)=some (.type "type")
 s:subIn K (.ref C) (.ref D)=some false
##PY {t:Value} {b:Bool} (c:isClsIn K D=true) (ht:typeIn K (.ref D)=some (.type "type")) (s:subIn K t (.ref D)=some b):kitCls K t (.ref D)=some b:=by
 have c:(clsIn K D).isSome=true:=c
 ~kitCls
 dsimp only
 rw [c,ht,if_pos §]
 !s
##VW.one (n:VW K C D):kitOne K (.ref C) (.ref D)=some false:=by
 ~kitOne
 rw [n.ne,if_neg Bool.false_ne_true]
 !PY n.c n.t n.s
end L5
end
section
namespace L5
open PySem PySem.Spec PyProof.Rows L2 L3 L4
section
variable {X:Cx}
def PRs (X:Cx) (es:List Expr) (r:RF):Prop:=PA X es (fun σ H _=>tR X r σ H fun _ _=>True)
##UP {es:List Expr} {t t':TA} (h:PA X es t) (f:∀ σ H Q,t' σ H Q->t σ H Q):PA X es t':=fun pos pins s σ H Q I q=>h pos pins s σ H Q I (f σ H Q q)
##aDE {e:Expr} {es:List Expr} {r:RF} {t:AF} (he:PR X e r) (ha:zZ X es t) (hs:starEach (e::es) X.env=(false,eval e X.env)::starEach es X.env:=by rfl):PRs X (e::es) r :=
 UP (nE he ha hs) fun σ H Q h=>h
##aGI {es:List Expr} {r:RF} {x1} {pos:Pos} (h:PRs X es r):PR X (.Tuple es x1 pos) r:=imp (T4 h) fun σ H Q h=>h
end
end L5
end
section
namespace L5
open PySem PySem.Spec PyProof.Rows L2 L3 L4 Att
section
variable {X:Cx} {pins:List (Addr×Obj)} {σ:L2.St} {H:Hp} {s:Shared}
end
end L5
end
section
namespace L5
open PySem PySem.Spec PyProof.Rows L2 L3 L4
section
variable {X:Cx}
##aAu {tg e:Expr} {f:XF} {g:K2} {pos:Pos} (he:MT X e f) (hg:ZT X tg (wG g)) (hs:swapsWithSole [tg] e pos.line X.env=pure false:=by rfl) (hw:swappedStores [tg] e X.env=pure none:=by rfl)
  (h1:(assignEach [tg] X.env).map (·.2)=[assign tg X.env]:=by rfl):tJ X (.Assign [tg] e pos) (HV f g) :=
 j3 (aBr he hg hs hw h1) fun B σ H aGJ=>by
  &⟨H₀,S,w,ρ,G,E,hl,st,ht,ok⟩:=aGJ
  ~wS HV at ht
  cases e1:(f ρ).bind fun p=>g p.2 p.1 with
  | none=>rw [e1] at ht; !ht.elim
  | some ρ' =>
   rw [e1] at ht
   &⟨p,ef,eg⟩:=bnd e1
   @⟨H₀,S,w,ρ,G,fun ρ2 d2=>ρ2=p.1/\d2=p.2,hl,st,⟨p,ef,rfl,rfl⟩,fun w' v H' ρ2 d2 st' d' q'=>?_⟩
   &⟨rfl,rfl⟩:=q'
   !⟨H₀,S,w',p.1,G,p.2,_,hl,st',d',⟨ρ',eg,ht⟩,fun σ' H2 ρ3 hl' st2 q3=>ok.nx w' σ' H2 ρ3 hl' st2 q3⟩
end
section
variable {X:Cx}
section
variable {ls fs:List Str} {fr:List Nat} {sc:Scope} {tg iter elt:Expr} {ifs:List Expr} {pos:Pos} {i:Nat} {x:Str} {spos pos':Pos}
##JY {ti:WI} {g:GE} {tf:WT} {te:WE} (nd:X.N.Nodup) (hc:X.calm=true) (hi:UY X tg iter ti)
  (hg:∀ cl C pn ex s H,(blk X (ls++fs) sc cl C pn ex s H).N.Nodup->PG4 (blk X (ls++fs) sc cl C pn ex s H) ls.length tg g) (hf:∀ cl C pn ex s H,OX (blk X (ls++fs) sc cl C pn ex s H) ifs tf) (he:∀ cl C pn ex s H,cU (blk X (ls++fs) sc cl C pn ex s H) elt te)
  (hx0:X.N[i]? = some x:=by rfl) (hx:X.env.scope.names.lookup x=some .local:=by rfl) (hsw:swapsWith (.ListComp elt [⟨tg,iter,ifs,0⟩] sc pos) (some (.Name x pos')) spos.line X.env=pure true:=by rfl)
  (B:chk X.env.scope.names sc X.N ls fs fr=true:=by rfl) (hs:∀ x,foldedSetIterable iter X.env x=pure x:=by intro _; rfl):EM X (.Assign [.Name x pos'] (.ListComp elt [⟨tg,iter,ifs,0⟩] sc pos) spos) (aAn i (GJ ls.length fr ti g tf te)) :=
 j3 (xV (g:=xW X.K ls.length (ls++fs).length g) (tf:=liftT X.K tf) (te:=lift X.K te) nd hx0 hx hc (nG B) hi (fun cl C pn ex s H=>hg cl C pn ex s H (nG B).nd) hf he hsw hs) fun Bd σ H aGK=>by
 &⟨H₀,S,w,ρ,G,E,hl,st,ht,ok⟩:=aGK
 !t9 (n:=(ls++fs).length) (by rw [List.length_append,(nG B).GA]) ⟨_,bT ρ,_,st.OQ,st.all,ht,fun p xs H' ds hp hp' s' d' q'=>ok.nx w _ H' _ (by rw [List.length_set]; !hl) ((st.same s').nF (d:=.lst ds) (by rw [hl]; !iO hx0) (by simp only [Dn]; !⟨p,xs,rfl,hp',st.UM p hp,bC.vN q'.1 d'⟩)) q'.2⟩
variable {it:AF} {g:HU} {t:TF} {e:EF}
##aGL {f:EF} {ρ:bR} {Q:D->Prop} {o:Out} {d:D} (h:f ρ=some d) (hl:qD d=true) (q:Q d):wE f ρ fun d=>(match d with | .lst ds=>kW ds=true | _=>False)/\Q d:=by
 @⟨d,h,?_,q⟩
 cases d<;>first | !hl | cases hl
##JZ (nd:X.N.Nodup) (hc:X.calm=true) (hi:Z6 X tg iter it)
  (hg:∀ cl C pn ex s H,(blk X (ls++fs) sc cl C pn ex s H).N.Nodup->VI (blk X (ls++fs) sc cl C pn ex s H) ls.length tg g) (hf:∀ cl C pn ex s H,VJ (blk X (ls++fs) sc cl C pn ex s H) ifs t) (he:∀ cl C pn ex s H,bS (blk X (ls++fs) sc cl C pn ex s H) elt e)
  (hx0:X.N[i]? = some x:=by rfl) (hx:X.env.scope.names.lookup x=some .local:=by rfl) (hsw:swapsWith (.ListComp elt [⟨tg,iter,ifs,0⟩] sc pos) (some (.Name x pos')) spos.line X.env=pure true:=by rfl)
  (B:chk X.env.scope.names sc X.N ls fs fr=true:=by rfl) (hs:∀ x,foldedSetIterable iter X.env x=pure x:=by intro _; rfl):tJ X (.Assign [.Name x pos'] (.ListComp elt [⟨tg,iter,ifs,0⟩] sc pos) spos) (lZ i (bJ ls.length fr it g t e)) :=
 cS (JY nd hc hi hg hf he hx0 hx hsw B hs) fun E ρ w=>by
  ~wS lZ at w
  cases h:bJ ls.length fr it g t e (bT ρ) with
  | none=>rw [h] at w; !w.elim
  | some d =>
   rw [h] at w
   dsimp only at w
   by_cases hl:qD d=true
   ·rw [if_pos hl] at w
    !JU _ _ (aGL (o:=.no) (Q:=fun d=>E.nx (ρ.set i (.ro d))) h hl w)
   ·rw [if_neg hl] at w; !w.elim
end
##D9:∀ (l:List Int) (a M:Int),(M=a\/M∈l)->a<=M->(∀ b∈l,b<=M)->l.foldl (fun m b=>if m<b then b else m) a=M
 | [],a,M,h,_,_=>by
  rcases h with h | h
  ·!h.symm
  ·cases h
 | b::l,a,M,h,ha,hb=>by
  have hbM:=hb b (by simp)
  rw [List.foldl_cons]
  by_cases hab:a<b
  ·rw [if_pos hab]
   @D9 l b M ?_ hbM fun c hc=>hb c (by simp [hc])
   rcases h with h | h
   ·omega
   ·rcases List.mem_cons.mp h with h | h
    ·!.inl h
    ·!.inr h
  ·rw [if_neg hab]
   @D9 l a M ?_ ha fun c hc=>hb c (by simp [hc])
   rcases h with h | h
   ·!.inl h
   ·rcases List.mem_cons.mp h with h | h
    ·!.inl °
    ·!.inr h
end
section
variable {X:Cx}
##aDF {st:Stmt} {t:TS} (h:PS X.nox st t):PS X st t:=fun pins s σ H D I hw=>wpAny_mono (h pins s σ H D (I.wish fun _ _=>False) hw) (fun _ _ q=>SP.nB q) fun _ _ z=>z.elim
##aGM {st:Stmt} {f:SF} (h:tJ X.nox st f):tJ X st (XG f):=j3 (aDF h) fun B σ H hq=>by
 &⟨H₀,S,w,ρ,G,E,hl,sT,ht,ok⟩:=hq
 @⟨H₀,S,w,ρ,G,{ E with ex:=fun _=>False },hl,sT,?_,⟨ok.nx,ok.rt,ok.bk,ok.ct,fun _ _ _ q=>q.elim⟩⟩
 ~wS XG at ht
 ~wS
 cases hf:f ρ with
 | nx ρ1=>rw [hf] at ht; !ht
 | rt d=>rw [hf] at ht; !ht
 | no=>rw [hf] at ht; !ht
 | ex c=>rw [hf] at ht; !ht.elim
end
end L5
end
section
namespace L6
open PySem PySem.Spec PyProof.Rows
def Up (l:List Nat):Prop:=l.Pairwise (·<·)
##VX (xs:Array Nat) (j:Nat) (up:Up xs.toList):∀ f lo hi,hi - lo<=f->lo<=hi->hi<=xs.size->(∀ i,i<lo->xs.getD i j<j)->(∀ i,hi<=i->i<xs.size->j<=xs.getD i j) ->
  SetTable.below.go xs j f lo hi<=xs.size/\(∀ i,i<SetTable.below.go xs j f lo hi->xs.getD i j<j) /\ ∀ i,SetTable.below.go xs j f lo hi<=i->i<xs.size->j<=xs.getD i j:=by
 have mono:∀ i k,i<=k->k<xs.size->xs.getD i j<=xs.getD k j:=fun i k hik hk=>by
  by_cases e:i=k
  ·subst e; !Nat.le_refl _
  ·have h1:i<xs.size:=by omega
   have:=List.pairwise_iff_getElem.mp up i k (¥h1) (¥hk) °
   simp only [Array.getD,h1,hk,dif_pos]
   simpa using Nat.le_of_lt this
 intro f
 induction f with
 | zero =>
  intro lo hi h1 h2 h3 h4 h5
  have:lo=hi:=by omega
  subst this
  !⟨h3,h4,h5⟩
 | succ f ih =>
  intro lo hi h1 h2 h3 h4 h5
  ~SetTable.below.go
  by_cases hl:lo<hi
  ·rw [if_pos hl]
   dsimp only
   by_cases hm:xs.getD ((lo+hi) / 2) j<j
   ·rw [if_pos hm]
    @ih _ _ ° ° h3 (fun i hi'=>?_) h5
    !Nat.lt_of_le_of_lt (mono i ((lo+hi) / 2) ° °) hm
   ·rw [if_neg hm]
    @ih _ _ ° ° ° h4 fun i hi' hs=>?_
    !Nat.le_trans (Nat.not_lt.mp hm) (mono _ i hi' hs)
  ·rw [if_neg hl]
   have:lo=hi:=by omega
   subst this
   !⟨h3,h4,h5⟩
##below_at {xs:Array Nat} (up:Up xs.toList) (j:Nat):SetTable.below xs j<=xs.size/\(∀ i,i<SetTable.below xs j->xs.getD i j<j) /\ ∀ i,SetTable.below xs j<=i->i<xs.size->j<=xs.getD i j :=
 VX xs j up _ _ _ ° ° (Nat.le_refl _) (fun i h=>by omega) fun i h1 h2=>by omega
##J0 {xs:Array Nat} (up:Up xs.toList) {k p:Nat} (hk:xs[k]? = some p):SetTable.below xs (p+1)=k+1:=by
 &⟨h1,h2,h3⟩:=below_at up (p+1)
 have hs:k<xs.size:=(Array.getElem?_eq_some_iff.mp hk).1
 have ek:xs.getD k (p+1)=p:=by rw [Array.getD_eq_getD_getElem?,hk]; rfl
 have a:¬ SetTable.below xs (p+1)<=k:=fun h=>by
  have:=h3 k h hs
  omega
 by_cases hn:k+1<SetTable.below xs (p+1)
 ·have h4:=h2 (k+1) hn
  have hs2:k+1<xs.size:=by omega
  have:=List.pairwise_iff_getElem.mp up k (k+1) (¥hs) (¥hs2) °
  have e2:xs.getD (k+1) (p+1)=xs[k+1]:=by simp [Array.getD,hs2]
  have e3:xs[k]=p:=by have:=Array.getElem?_eq_some_iff.mp hk; !this.2
  simp only [Array.getElem_toList] at this
  omega
 ·omega
##GR {xs:Array Nat} (up:Up xs.toList):SetTable.below xs 0=0:=by
 &⟨h1,h2,h3⟩:=below_at up 0
 by_cases h:SetTable.below xs 0=0
 ·!h
 ·have:=h2 0 °
  omega
##AC {α:Type} (xs:Array α) (p:Nat) (x:α):(SetTable.insertAt xs p x).toList=xs.toList.take p++x::xs.toList.drop p:=by
 ~SetTable.insertAt
 simp [Array.toList_extract,List.extract_eq_take_drop]
 @List.take_of_length_le ?_; simp
##aDG {xs:Array Nat} (up:Up xs.toList) {j:Nat} (hj:xs[SetTable.below xs j]?≠some j):Up (SetTable.insertAt xs (SetTable.below xs j) j).toList:=by
 &⟨h1,h2,h3⟩:=below_at up j
 rw [AC]
 ~Up at *
 rw [List.pairwise_append]
 @⟨up.sublist (List.take_sublist ..),?_,fun a ha b hb=>?_⟩
 ·rw [List.pairwise_cons]
  @⟨fun b hb=>?_,up.sublist (List.drop_sublist ..)⟩
  &⟨i,hi,e'⟩:=List.getElem_of_mem hb; have e:=e'
  rw [List.getElem_drop] at e
  have hs:SetTable.below xs j+i<xs.size:=by simp at hi; omega
  have h4:=h3 (SetTable.below xs j+i) ° hs
  have e2:xs.getD (SetTable.below xs j+i) j=b:=by simp only [Array.getD,hs,dif_pos]; simpa using e
  rw [e2] at h4
  by_cases e3:b=j
  ·exfalso
   subst e3
   by_cases hi0:i=0
   ·subst hi0
    apply hj
    rw [Array.getElem?_eq_getElem (¥hs)]
    simpa using e
   ·have hs0:SetTable.below xs b<xs.size:=by omega
    have q:=List.pairwise_iff_getElem.mp up (SetTable.below xs b) (SetTable.below xs b+i) (¥hs0) (¥hs) °
    have h5:=h3 (SetTable.below xs b) (Nat.le_refl _) hs0
    have e4:xs.getD (SetTable.below xs b) b=xs[SetTable.below xs b]:=by simp [Array.getD,hs0]
    rw [e] at q
    simp only [Array.getElem_toList] at q
    omega
  ·omega
 ·&⟨i,hi,e⟩:=List.getElem_of_mem ha
  have hi2:i<SetTable.below xs j:=by simp at hi; omega
  have hs:i<xs.size:=by omega
  have h4:=h2 i hi2
  have e2:xs.getD i j=a:=by simp only [Array.getD,hs,dif_pos]; rw [<- e]; simp
  rw [e2] at h4
  rcases List.mem_cons.1 hb with hb | hb
  ·omega
  ·&⟨k,hk,e5⟩:=List.getElem_of_mem hb
   rw [List.getElem_drop] at e5
   have hs2:SetTable.below xs j+k<xs.size:=by simp at hk; omega
   have q:=List.pairwise_iff_getElem.mp up i (SetTable.below xs j+k) (¥hs) (¥hs2) °
   rw [e5] at q
   have e6:xs.toList[i]=a:=by rw [<- e]; simp
   rw [e6] at q
   !q
##VY (n:Nat):Up (Array.range n).toList:=by
 ~Up
 rw [Array.toList_range]
 !List.pairwise_lt_range
structure Q4 (led:Bool) (t:SetTable) (n:Nat):Prop where
 fit:t.fits n=true
 led:t.led=led
 no:t.dummies=#[]
 up:Up t.place.toList
##nH {led:Bool} {t:SetTable} (n:Nat) (h:t.led=led):Q4 led (t.standIn n) n:=by
 @⟨?_,h,rfl,VY n⟩
 ~SetTable.fits SetTable.standIn SetTable.fill
 simp
 omega
##GS {t:SetTable} {h:Int} (hn:t.dummies=#[]) {f:Nat->Int}:∀ (k:Nat) (p:SetTable.Probe) {j:Nat} {d:Option Nat},p.dummy=none->SetTable.probe.go t f h k p=some (.empty j d)->d=none/\t.place[SetTable.below t.place j]?≠some j:=by
 intro k
 induction k with
 | zero=>intro p j d _ e; ~SetTable.probe.go at e; cases e
 | succ k ih =>
  intro p j d hd e
  ~SetTable.probe.go at e
  have adv:(t.advance p).dummy=none:=by ~SetTable.advance; split<;>!hd
  cases q:t.slot p.j with
  | empty =>
   rw [q] at e
   injection e with e
   injection e with e1 e2
   subst e1
   @⟨by rw [<- e2]; !hd,fun z=>?_⟩
   ~SetTable.slot at q
   dsimp only at q
   rw [z] at q
   simp at q
  | dummy =>
   exfalso
   ~SetTable.slot at q
   dsimp only at q
   split at q
   ·cases q
   ·have:SetTable.has t.dummies p.j=false:=by rw [hn]; ~SetTable.has; simp
    rw [this] at q
    cases q
  | live i =>
   rw [q] at e
   dsimp only at e
   split at e
   ·cases e
   ·!ih _ adv e
##Q4.layNew {led:Bool} {t:SetTable} {es:Array (Int×Value)} (h:Q4 led t es.size) (k:Int) (x:Value):Q4 led (layNew t es k x).2.1 (layNew t es k x).1.size:=by
 ~PySem.layNew
 cases q:t.freeSlot k with
 | none =>
  dsimp only
  rw [Array.size_push]
  !nH _ h.led
 | some r =>
  &⟨slot,wd⟩:=r
  dsimp only
  ~SetTable.freeSlot at q
  have hp:t.place[SetTable.below t.place slot]?≠some slot:=by
   ~SetTable.probe at q
   split at q
   ·rename_i j d e
    &⟨e1,e2⟩:=GS h.no _ _ rfl e
    subst e1
    cases q
    !e2
   ·cases q
  have hd:SetTable.has t.dummies slot=false:=by rw [h.no]; simp [SetTable.has]
  have ep:t.put slot=({ t with place:=SetTable.insertAt t.place (SetTable.below t.place slot) slot },SetTable.below t.place slot):=by
   ~SetTable.put
   rw [hd]
   rfl
  rw [ep]
  dsimp only
  ~SetTable.orStandIn
  split
  ·rename_i hf
   !⟨hf,h.led,h.no,aDG h.up hp⟩
  ·!nH _ h.led
##sS {β:Type} (f:Nat->Option β):∀ l:List Nat,Up l->Up ((l.filterMap fun j=>(f j).map (j,·)).map (·.1))
 | [],_=>by simp [Up]
 | a::l,h=>by
  have h':=List.pairwise_cons.1 h
  have ih:=sS f l h'.2
  rw [List.filterMap_cons]
  cases q:f a with
  | none=>!ih
  | some b =>
   dsimp only [Option.map_some]
   rw [List.map_cons]
   @List.pairwise_cons.mpr ⟨fun c hc=>?_,ih⟩
   &⟨p,hp,e⟩:=List.mem_map.mp hc
   &⟨j,hj,e2⟩:=List.mem_filterMap.mp hp
   cases q2:f j with
   | none=>rw [q2] at e2; cases e2
   | some b2 =>
    rw [q2] at e2
    cases e2
    rw [<- e]
    !h'.1 j hj
##Q4.aGN {led:Bool} {t:SetTable} {es:Array (Int×Value)} (h:Q4 led t es.size) (wanted:Nat):Q4 led (relayAll t es wanted).2.1 (relayAll t es wanted).1.size:=by
 ~relayAll
 cases q:t.relaid (es.map (·.1)) wanted with
 | none=>!nH _ h.led
 | some r =>
  &⟨t',order⟩:=r
  dsimp only
  split
  ·rename_i hc
   rw [Bool.and_eq_true] at hc
   ~SetTable.relaid SetTable.laid at q
   cases q2:SetTable.layClean (SetTable.sizeAbove wanted - 1) (es.map (·.1)) with
   | none=>rw [q2] at q; cases q
   | some owner =>
    rw [q2] at q
    cases q
    @⟨hc.2,h.led,rfl,?_⟩
    dsimp only
    !sS _ _ List.pairwise_lt_range
  ·!nH _ h.led
##VZ (led:Bool):Q4 led (SetTable.fresh 0 0 led) 0:=⟨by rfl,rfl,rfl,List.Pairwise.nil⟩
def qZ (e:Int×Value):Int:=match e.2 with
 | .int m _=>m
 | _=>0
def GU (e:Int×Value):Prop:=∃ m t,e=(hashInt m,Value.int m t)
def pW (led:Bool) (o:Obj) (ns:List Int):Prop:=∃ es ep t,o.ExactSet/\o.data=.set es ep t/\(∀ e∈es.toList,GU e)/\(es.toList.map qZ).Perm ns/\Q4 led t es.size/\es.size<scanBound
def J1 (ns:List Int) (k:Int):List Int:=if k∈ns then ns else ns++[k]
##V0 (prog:Program) (w:World) {l:List (Int×Value)} (h:∀ e∈l,GU e):ElemsOf (intKind prog w) l:=fun e he=>by
 &⟨m,t,rfl⟩:=h e he
 !⟨⟨m,intKind_is prog w m t,rfl⟩,rfl⟩
##V1 (prog:Program) (w:World) {e:Int×Value} (h:GU e) (k:Int):(intKind prog w).is k e.2=decide (k=qZ e):=by
 &⟨m,t,rfl⟩:=h
 !KeyKind.is_eq_decide (intKind_is prog w m t) k
section
variable {prog:Program} {w:World} {A:Around} {E:Value->Shared->Prop} {s:Shared}
##stored {a:Addr} {o:Obj} {es es':Array (Int×Value)} {ep:Nat} {t t':SetTable} (ho:s.heap.get? a=some o) (hd:o.data=.set es ep t) :
  (s.heap.update a (Obj.putSet es' t')).get? a=some { o with data:=.set es' (ep+1) t' }:=by
 have q:=Heap.get?_update_self (Obj.putSet es' t') ho (by rw [putSet_of es' t' hd]; rfl)
 rwa [putSet_of es' t' hd] at q
##add_int {a:Addr} {o:Obj} {ns:List Int} {k:Int} {tk:Tok} {led:Bool} {Q:Bool->Shared->Prop} (ho:s.heap.get? a=some o) (hi:pW led o ns) (hb:ns.length+1<scanBound)
  (h:∀ h' o' b,Heap.SameBut a s.heap h'->h'.get? a=some o'->pW led o' (J1 ns k)->Q b { s with heap:=h',toks:=s.toks+1 }):wpAny (model prog w) A (setAdd a (.int k tk)) Q E s:=by
 &⟨es,ep,t,hx,hd,hE,hp,hT,hs⟩:=hi
 have hel:=V0 prog w hE
 have calm:∀ (b:Bool) (s1:Shared) (Q1:Unit->Shared->Prop),Q1 () s1->wpAny (model prog w) A (match b with | true=>rule "set.scan.the-table-gave-way" | false=>pure ()) Q1 E s1:=fun b s1 Q1 q=>by
  cases b
  ·!wpAny_pure q
  ·!wpAny_rule q
 have hk:=intKind_is prog w k tk
 ~setAdd
 @wpAny_holding (wpAny_bind ((intKind prog w).pyHash hk ?_))
 ~setAddHashed setAddHashedIn setAddByScan
 @wpAny_holding (wpAny_bind (wpAny_setState_of (s:={ s with toks:=s.toks+1 }) ho hd hT.fit ?_))
 dsimp only
 rw [if_pos (byScan_of (x:=.int k tk) rfl hs hel)]
 @wpAny_bind (wpAny_bind (wpAny_rule (wpAny_bind (wpAny_setScan_of (s:={ s with toks:=s.toks+1 }) hk ho hd hT.fit hel ?_))))
 cases hf:es.toList.findIdx? (fun e=>(intKind prog w).is k e.2) with
 | some j =>
  &⟨hj,e,_⟩:=List.findIdx?_eq_some_iff_getElem.1 hf
  have hm:=List.getElem_mem hj
  rw [V1 prog w (hE _ hm),decide_eq_true_eq] at e
  have kn:k∈ns:=hp.mem_iff.1 (e▸List.mem_map_of_mem hm)
  apply wpAny_pure; apply wpAny_pure
  @h s.heap o false (Heap.SameBut.refl ..) ho ?_
  rw [J1,if_pos kn]
  !⟨es,ep,t,hx,hd,hE,hp,hT,hs⟩
 | none =>
  have kn:k∉ns:=fun z=>by
   &⟨e,he,ee⟩:=List.mem_map.1 (hp.mem_iff.2 z)
   have q:=List.findIdx?_eq_none_iff.1 hf e he
   rw [V1 prog w (hE e he),ee] at q
   simp at q
  dsimp only
  have p1:=layNew_perm t es (hashInt k) (.int k tk)
  have t1:=hT.layNew (hashInt k) (.int k tk)
  show wpAny _ _ _ _ _ _
  have eh:(intKind prog w).hash k=hashInt k:=rfl
  rw [eh]
  generalize layNew t es (hashInt k) (.int k tk)=L at p1 t1 ⊢
  &⟨es1,tb,wd,gv⟩:=L
  rw [Array.toList_push] at p1
  dsimp only at p1 t1 ⊢
  have e1:∀ e∈es1.toList,GU e:=fun e he=>by
   rcases List.mem_append.1 (p1.mem_iff.1 he) with z | z
   ·!hE e z
   ·!⟨k,tk,List.mem_singleton.1 z⟩
  have n1:(es1.toList.map qZ).Perm (ns++[k]):=(p1.map qZ).trans (by rw [List.map_append]; !hp.append_right _)
  have l1:es1.size=ns.length+1:=by have q:=n1.length_eq; simpa using q
  have z1:es1.size<scanBound:=by omega
  have fin:∀ h' o',Heap.SameBut a s.heap h'->h'.get? a=some o'->pW led o' (ns++[k])->Q true { s with heap:=h',toks:=s.toks+1 }:=fun h' o' q1 q2 q3=>h h' o' true q1 q2 (by rw [J1,if_neg kn]; !q3)
  have tail:∀ tb2:SetTable,Q4 led tb2 es1.size->wpAny (model prog w) A (do
    storeSet a es1 tb2
    if (!wd&&tb2.tooFull)=true then do
      (match (relayAll tb2 es1 (SetTable.grown es1.size)).2.2 with | true=>rule "set.scan.the-table-gave-way" | false=>pure ())
      storeSet a (relayAll tb2 es1 (SetTable.grown es1.size)).1 (relayAll tb2 es1 (SetTable.grown es1.size)).2.1
      pure (some true)
     else pure (some true)) (fun r s'=>wpAny (model prog w) A (match r with | some added=>pure added | none=>setAddHashedIn a (.int k tk) (hashInt k) 99999) Q E s') E { s with toks:=s.toks+1 }:=fun tb2 t2=>by
   @wpAny_bind (wpAny_storeSet_of (s:={ s with toks:=s.toks+1 }) ho hd ?_ (fits_of_scanBound z1))
   have g1:=stored (es':=es1) (t':=tb2) ho hd
   have i1:pW led { o with data:=.set es1 (ep+1) tb2 } (ns++[k]):=⟨es1,ep+1,tb2,hx,rfl,e1,n1,t2,z1⟩
   split
   ·have p2:=relayAll_perm tb2 es1 (SetTable.grown es1.size)
    have t3:=t2.aGN (SetTable.grown es1.size)
    generalize relayAll tb2 es1 (SetTable.grown es1.size)=L at p2 t3 ⊢
    &⟨es2,tc,gv2⟩:=L
    dsimp only at p2 t3 ⊢
    have l2:es2.size=es1.size:=by have q:=p2.length_eq; simpa using q
    @wpAny_bind (calm gv2 _ _ (wpAny_bind (wpAny_storeSet_of (s:={ s with heap:=s.heap.update a (Obj.putSet es1 tb2),toks:=s.toks+1 }) g1 rfl (wpAny_pure (wpAny_pure ?_)) (fits_of_scanBound °))))
    !fin _ _ ((Heap.SameBut.update ..).trans (Heap.SameBut.update ..)) (stored (s:={ s with heap:=s.heap.update a (Obj.putSet es1 tb2) }) g1 rfl) ⟨es2,_,tc,hx,rfl,fun e he=>e1 e (p2.mem_iff.1 he),(p2.map qZ).trans n1,t3,by omega⟩
   ·!wpAny_pure (wpAny_pure (fin _ _ (Heap.SameBut.update ..) g1 i1))
  @wpAny_bind (calm gv _ _ ?_)
  split
  ·apply wpAny_bind; apply wpAny_pure
   !tail _ t1
  ·apply wpAny_bind; apply wpAny_pure
   !tail _ t1
end
def iJ:List Int->List Int->List Int
 | ns,[]=>ns
 | ns,k::r=>iJ (J1 ns k) r
def eL (w:World):Bool:=!(w.params.followText "set-order")
def kQ (led:Bool):Obj:={ cls:=.type "set",dict:=none,data:=.set #[] 0 (.fresh 0 0 led) }
##PZ (led:Bool):pW led (kQ led) []:=⟨#[],0,.fresh 0 0 led,⟨rfl,rfl,rfl⟩,rfl,fun e he=>by simp at he,List.Perm.nil,VZ led,by decide⟩
##GV (ns:List Int) (k:Int):(J1 ns k).length<=ns.length+1:=by
 ~J1
 split
 ·omega
 ·simp
section
variable {prog:Program} {w:World} {A:Around} {E:Value->Shared->Prop} {s:Shared}
##V2 {I S t:Addr} {items:Array Value} {ns:List Int} {led:Bool} {R:Result->Shared->Prop} (hh:A.handled=none) (hi:IntsAre items.toList ns) (hI:t≠I) (hSI:S≠I) (hSt:S≠t) (hb:ns.length+1<scanBound) :
  ∀ (r:List Int) (i:Nat) (s:Shared) (ms:List Int) (o:Obj),r=ns.drop i->i<=ns.length->s.heap.IsTupleIter I t i->s.heap.IsTuple t items->s.heap.get? S=some o->pW led o ms->ms.length<=i ->
   (∀ h' tk o',(∀ b u,b≠S->b≠I->s.heap.get? b=some u->h'.get? b=some u)->h'.get? S=some o'->pW led o' (iJ ms r)->R (.ok (.ret .none)) { s with heap:=h',toks:=tk })->codeAny (model prog w) A (.builtin "set.update.loop" ⟨[.ref S,.ref I],[]⟩) R s:=by
 have W:=Walks.tuple (prog:=prog) (w:=w) (A:=A.in1) hh I t hI items
 have hn:items.size=ns.length:=by have q:=IntsAre.length hi; simpa using q
 intro r
 induction r with
 | nil =>
  intro i s ms o er hil it tp ho hS _ fin
  have e:i=items.size:=by
   have q:=congrArg List.length er
   rw [List.length_drop,List.length_nil] at q
   omega
  subst e
  apply codeAny_builtin F.entry_set_update_loop
  rw [Around.under_plainId F.plain_set_update_loop]
  ~Builtin.«set.update.loop»
  @wpAny_bind (W.done s _ _ ⟨it,tp⟩ fun h' tk keep=>wpAny_pure ?_)
  !fin h' tk o (fun b u h1 h2 e=>keep b u (¥h2) e) (keep S o (¥hSI) ho) hS
 | cons k r ih =>
  intro i s ms o er hil it tp ho hS hm fin
  have hlt:i<ns.length:=by
   have q:=congrArg List.length er
   rw [List.length_drop,List.length_cons] at q
   omega
  have ek:ns[i]? = some k:=by
   have q:(ns.drop i)[0]? = some k:=by rw [<- er]; rfl
   rwa [List.getElem?_drop,Nat.add_zero] at q
  apply codeAny_builtin F.entry_set_update_loop
  rw [Around.under_plainId F.plain_set_update_loop]
  ~Builtin.«set.update.loop»
  @wpAny_bind (W.item i s _ _ ° ⟨it,tp⟩ fun v h1 tk hv st keep=>?_)
  &⟨t1,rfl⟩:=IntsAre.int_at hi i v (by rw [Array.getElem?_toList]; !hv)
  have e2:ns.getD i 0=k:=by rw [List.getD_eq_getElem?_getD,ek]; rfl
  rw [e2]
  @wpAny_bind (wpAny_holding (add_int (s:={ s with heap:=h1,toks:=tk }) (keep S o (¥hSI) ho) hS ° fun h2 o2 _ sb g2 i2=>wpAny_pure ⟨plainId_quiet F.plain_set_update_loop _,?_⟩))
  have it2:h2.IsTupleIter I t (i+1):=st.1.at fun o e=>by rw [sb.2 I (Ne.symm hSI)]; !e
  have tp2:h2.IsTuple t items:=st.2.at fun o e=>by rw [sb.2 t (Ne.symm hSt)]; !e
  @ih (i+1) { s with heap:=h2,toks:=tk+1 } _ o2 ?_ ° it2 tp2 g2 i2 (Nat.le_trans (GV ms k) °) fun h3 tk3 o3 k3 g3 i3=>fin h3 tk3 o3 (fun b u n1 n2 e=>k3 b u n1 n2 ?_) g3 i3
  ·have q:=congrArg List.tail er
   rw [List.tail_drop] at q
   !q
  ·show h2.get? b=some u
   rw [sb.2 b n1]
   !keep b u (¥n2) e
##Z9 (x:Value):MeetsIn prog w (Builtin.«set.__new__» ⟨[.type "set",x],[]⟩) (fun _ R s=>R (.ok (.ret (.ref s.heap.objs.size))) { s with heap:=s.heap.push (kQ (eL w)) }):=by
 @.of_wp fun A R s h=>?_
 have hs:=sub_set_self
 ~Builtin.«set.__new__» Builtin.Frozenset.newClass newSet setsByText
 wp_walk
 apply wpAny_askSetting; apply wpAny_pure
 dsimp only
 simp only [newObj]
 !wpAny_bind (wpAny_alloc (wpAny_pure (wpAny_pure ⟨_,rfl,h⟩)))
##V3 {S t:Addr} {items:Array Value} {ns:List Int} {led:Bool} (hi:IntsAre items.toList ns) (hSt:S≠t) (hb:ns.length+1<scanBound) :
  MeetsIn prog w (Builtin.«set.__init__» ⟨[.ref S,.ref t],[]⟩) (fun A R s=>A.handled=none/\s.heap.IsTuple t items/\s.heap.get? S=some (kQ led) /\
   ∀ h' tk o',(∀ b u,b≠S->b<s.heap.objs.size->s.heap.get? b=some u->h'.get? b=some u)->h'.get? S=some o'->pW led o' (iJ [] ns)->R (.ok (.ret .none)) { s with heap:=h',toks:=tk }):=by
 @.of_wp fun A R s h=>?_
 &⟨hh,tp,hS,h⟩:=h
 have T1:s.TypeIs (.ref S) "set" := ⟨_,hS,rfl⟩
 have T2:=tp.typeIs
 have s1:=F.sub_tuple_set
 have s2:=F.sub_tuple_frozenset
 &⟨ot,hot,hct,nt,hdt⟩:=id tp
 ~Builtin.«set.__init__»
 ~noKeywords Builtin.Frozenset.updateFrom
 generalize hP:pyIter=P
 wp_walk
 subst hP
 have lS:S<s.heap.objs.size:=Heap.lt_size hS
 have lt:t<s.heap.objs.size:=Heap.lt_size hot
 @wpAny_pyIter_tuple tp (wpAny_bind (wpAny_runValue ?_))
 @V2 (A:=A.in1) (t:=t) (S:=S) hh hi (Nat.ne_of_lt lt) (Nat.ne_of_lt lS) hSt hb ns 0 _ [] (kQ led) rfl (Nat.zero_le _) ⟨_,Heap.get?_push_size _ rfl,rfl,rfl⟩ (tp.push _) (Heap.get?_push_of_some _ hS) (PZ led) (Nat.le_refl _) fun h' tk o' keep g i=>?_
 !wpAny_pure (wpAny_pure ⟨_,rfl,h h' tk o' (fun b u n1 l e=>keep b u n1 (Nat.ne_of_lt l) (Heap.get?_push_of_some _ e)) g i⟩)
##V4 {t:Addr} {items:Array Value} {ns:List Int} {Q:Value->Shared->Prop} (hh:A.handled=none) (hi:IntsAre items.toList ns) (tp:s.heap.IsTuple t items) (hb:ns.length+1<scanBound)
  (h:∀ h' tk o',(∀ b u,s.heap.get? b=some u->h'.get? b=some u)->h'.get? s.heap.objs.size=some o'->pW (eL w) o' (iJ [] ns)->Q (.ref s.heap.objs.size) { s with heap:=h',toks:=tk }) :
  wpAny (model prog w) A (call (.type "set") [.ref t]) Q E s:=by
 &⟨c,tl,m1⟩:=F.called_set.mro
 have m2:=F.called_set.made
 have m3:=F.called_set.sub
 have m4:=F.called_set.notType
 have m5:=F.called_set.canCreate
 have m6:=F.typeCall_set_1 (.ref t)
 &⟨ot,hot,_⟩:=id tp
 have lt:t<s.heap.objs.size:=Heap.lt_size hot
 @wpAny_call (codeAny_of_tree (wpAny_pure ⟨Code.quiet_builtin _ (by decide +kernel),codeAny_builtin F.entry_type_call ?_⟩))
 rw [Around.under_plain (weight_type_call_type ..) (units_type_call_type ..)]
 wp_walk
 have c1:codeAny (model prog w) A.in1 (.call (.builtin "set.__new__") ⟨[.type "set",.ref t],[]⟩) (fun r s1=>r=.ok (.ret (.ref s.heap.objs.size))/\s1={ s with heap:=s.heap.push (kQ (eL w)) }) s :=
  codeAny_call_builtin F.plain_set_new F.entry_set_new (wpAny_of_eq (F.newCall_set_1 _) (Z9 (.ref t) A.in1 (fun r s1=>r=.ok (.ret (.ref s.heap.objs.size))/\s1={ s with heap:=s.heap.push (kQ (eL w)) }) s ⟨rfl,rfl⟩))
 @codeAny_mono c1 fun r s1 hr=>?_
 &⟨rfl,rfl⟩:=hr
 dsimp only
 have g1:(s.heap.push (kQ (eL w))).get? s.heap.objs.size=some (kQ (eL w)):=Heap.get?_push_size _ rfl
 have T1:Shared.TypeIs { s with heap:=s.heap.push (kQ (eL w)) } (.ref s.heap.objs.size) "set" := ⟨_,g1,rfl⟩
 have m7:=F.called_set.init.lookup
 have m8:=F.called_set.init.bind (.ref s.heap.objs.size)
 wp_walk
 have c2:codeAny (model prog w) A.in1 (.call (.builtin "set.__init__") ⟨[.ref s.heap.objs.size,.ref t],[]⟩) (fun r s2=>∃ h' tk o',r=.ok (.ret .none)/\s2={ s with heap:=h',toks:=tk } /\
   (∀ b u,s.heap.get? b=some u->h'.get? b=some u)/\h'.get? s.heap.objs.size=some o'/\pW (eL w) o' (iJ [] ns)) { s with heap:=s.heap.push (kQ (eL w)) } :=
  codeAny_call_builtin F.called_set.init.plain F.entry_set_init (check_set_init_1 T1 (V3 (led:=eL w) hi (Nat.ne_of_gt lt) hb A.in1 (fun r s2=>∃ h' tk o',r=.ok (.ret .none)/\s2={ s with heap:=h',toks:=tk } /\
   (∀ b u,s.heap.get? b=some u->h'.get? b=some u)/\h'.get? s.heap.objs.size=some o'/\pW (eL w) o' (iJ [] ns)) { s with heap:=s.heap.push (kQ (eL w)) } ⟨hh,tp.push _,g1,fun h' tk o' keep g i =>
    ⟨h',tk,o',rfl,rfl,fun b u e=>keep b u (Nat.ne_of_lt (Heap.lt_size e)) (by rw [Heap.size_push]; !Nat.lt_succ_of_lt (Heap.lt_size e)) (Heap.get?_push_of_some _ e),g,i⟩⟩))
 @codeAny_mono c2 fun r s2 hr=>?_
 &⟨h',tk,o',rfl,rfl,keep,g,i⟩:=hr
 @wpAny_pure ?_
 dsimp only
 rw [if_neg §]
 !wpAny_pure (h h' tk o' keep g i)
end
namespace Si
##slot_next:Slot "set_iterator" "__next__" "set_iterator.__next__" := Slot.of (owner := "set_iterator") (n := "__next__") (by rw [typeLookup_type,builtinLookup_eq_fast]; kernel_rfl) (by decide +kernel) (by decide +kernel) (by decide +kernel) (Or.inl (by decide +kernel)) (by rw [isSubtype_type]; kernel_rfl)
##B4:Slot "set_iterator" "__iter__" "set_iterator.__iter__" := Slot.of (owner := "set_iterator") (n := "__iter__") (by rw [typeLookup_type,builtinLookup_eq_fast]; kernel_rfl) (by decide +kernel) (by decide +kernel) (by decide +kernel) (Or.inl (by decide +kernel)) (by rw [isSubtype_type]; kernel_rfl)
##entry_next:entryFor table "set_iterator.__next__" = some Builtin.«set_iterator.__next__»:=entryFor_of_tree (by kernel_rfl)
##args_next (a:Value):argsOk "set_iterator.__next__" ⟨[a],[]⟩:=by ~argsOk; kernel_rfl
##P0 (a:Value):argsOk "set_iterator.__iter__" ⟨[a],[]⟩:=by ~argsOk; kernel_rfl
##J2:entryFor table "set_iterator.__iter__" = some Builtin.«dict_keyiterator.__iter__» :=
 entryFor_alias (id' := "dict_keyiterator.__iter__") (by kernel_rfl) (by decide +kernel) (by decide +kernel) (by kernel_rfl)
##yD:entryFor table "set.__iter__" = some Builtin.«frozenset.__iter__» :=
 entryFor_alias (id' := "frozenset.__iter__") (by kernel_rfl) (by decide +kernel) (by decide +kernel) (by kernel_rfl)
end Si
def rA (h:Heap) (I S:Addr) (f:Value) (i n ep:Nat):Prop:=∃ o,h.get? I=some o/\o.cls=.type "set_iterator" /\ o.data=.fields #[f,rawInt i,.ref S,rawInt n,rawInt ep]
section
variable {prog:Program} {w:World} {A:Around} {E:Value->Shared->Prop} {s:Shared}
##rA.typeIs {I S:Addr} {f:Value} {i n ep:Nat} (x:rA s.heap I S f i n ep):s.TypeIs (.ref I) "set_iterator" := let ⟨o,ho,hc,_⟩:=x; ⟨o,ho,hc⟩
##pM {b:Bool} {Q:Bool->Shared->Prop} (hb:w.params.followText "set-order" = b) (h:Q b s):wpAny (model prog w) A setsByText Q E s:=by
 ~setsByText
 @wpAny_bind (wpAny_askSetting (wpAny_pure ?_))
 rw [<- hb] at h
 !h
##p9 {S:Addr} {o:Obj} {es:Array (Int×Value)} {ep i q:Nat} {t:SetTable} {Q:Option (Value×Nat)->Shared->Prop} (hw:eL w=true) (ho:s.heap.get? S=some o) (hd:o.data=.set es ep t) (hT:Q4 true t es.size)
  (hp:¬ (!t.plain&&es.size>1)=true) (hq:SetTable.below t.place q=i) (h:Q (match es[i]?,t.place[i]? with | some (_,x),some j=>some (x,j+1) | _,_=>none) s) (k:Nat):wpAny (model prog w) A (setNext S q k ep) Q E s:=by
 have hb:w.params.followText "set-order" = false:=by ~eL at hw; simpa using hw
 ~setNext
 @wpAny_bind (wpAny_setState_of ho hd hT.fit ?_)
 dsimp only
 @wpAny_bind (pM hb ?_)
 rw [if_neg §]
 split
 ·rename_i z
  !absurd z hp
 @wpAny_bind ?_
 show wpAny _ _ (if (!t.led && !es.isEmpty)=true then unsupported "set:maker-not-led" else pure ()) _ _ _
 rw [hT.led,if_neg (by simp)]
 @wpAny_pure ?_
 rw [hq]
 !wpAny_pure h
##GW {I S:Addr} {o:Obj} {es:Array (Int×Value)} {ep i q:Nat} {t:SetTable} {v:Value} {p:Nat} {Q:Option Value->Shared->Prop} (ho:s.heap.get? S=some o) (hd:o.data=.set es ep t) (hf:t.fits es.size=true) (it:rA s.heap I S (rawInt q) i es.size ep)
  (hN:∀ (Q1:Option (Value×Nat)->Shared->Prop) (E1:Value->Shared->Prop),Q1 (some (v,p)) s->wpAny (model prog w) A.in1 (setNext S q i ep) Q1 E1 s)
  (hQ:∀ h',rA h' I S (rawInt p) (i+1) es.size ep->Heap.SameBut I s.heap h'->Q (some v) { s with heap:=h' }):wpAny (model prog w) A (pyNext (.ref I)) Q E s:=by
 have tn:=it.typeIs
 &⟨oi,hoi,hci,hdi⟩:=it
 ~pyNext
 @wpAny_bind (wpAny_attempt (wpAny_callSpecial?_slot (name:=Str.ofString "__next__") tn Si.slot_next (wpAny_call_entry Si.slot_next tn Si.entry_next ?_ (Si.args_next _))))
 ~Builtin.«set_iterator.__next__»
 wp_walk
 rw [hdi]
 @wpAny_pure ?_
 dsimp only [rawInt]
 @wpAny_bind (wpAny_setEntries_of ho hd hf ?_)
 rw [if_neg (by simp)]
 @wpAny_bind (hN _ _ ?_)
 dsimp only
 @wpAny_bind (wpAny_setField hoi hdi (by simp) ?_)
 have g1:=Heap.get?_update_self (Obj.mapFields (·.setIfInBounds 0 (Value.int (p:Int) 0))) hoi (Obj.isFreed_of_fields (Obj.data_mapFields hdi _))
 @wpAny_bind (wpAny_setField (s:={ s with heap:=s.heap.update I (Obj.mapFields (·.setIfInBounds 0 (Value.int (p:Int) 0))) }) g1 (Obj.data_mapFields hdi _) (by simp) (wpAny_pure ⟨_,rfl,wpAny_pure (hQ _ ⟨_,Heap.get?_update_self _ g1 (Obj.isFreed_of_fields (Obj.data_mapFields (Obj.data_mapFields hdi _) _)),?_,?_⟩ ((Heap.SameBut.update ..).trans (Heap.SameBut.update ..)))⟩))
 ·!(Obj.cls_mapFields ..).trans ((Obj.cls_mapFields ..).trans hci)
 ·rw [Obj.data_mapFields (Obj.data_mapFields hdi _)]
  simp [rawInt]
##B5 {I S:Addr} {o:Obj} {es:Array (Int×Value)} {ep i q:Nat} {t:SetTable} {Q:Option Value->Shared->Prop} (hh:A.handled=none) (ho:s.heap.get? S=some o) (hd:o.data=.set es ep t) (hf:t.fits es.size=true) (it:rA s.heap I S (rawInt q) i es.size ep)
  (hN:∀ (Q1:Option (Value×Nat)->Shared->Prop) (E1:Value->Shared->Prop),Q1 none s->wpAny (model prog w) A.in1 (setNext S q i ep) Q1 E1 s)
  (hQ:∀ h',Heap.ExtBut I s.heap h'->Q none { s with heap:=h' }):wpAny (model prog w) A (pyNext (.ref I)) Q E s:=by
 have tn:=it.typeIs
 have hA:A.in1.handled=none:=hh
 &⟨oi,hoi,hci,hdi⟩:=it
 ~pyNext
 @wpAny_bind (wpAny_attempt (wpAny_callSpecial?_slot (name:=Str.ofString "__next__") tn Si.slot_next (wpAny_call_entry Si.slot_next tn Si.entry_next ?_ (Si.args_next _))))
 ~Builtin.«set_iterator.__next__»
 wp_walk
 rw [hdi]
 @wpAny_pure ?_
 dsimp only [rawInt]
 @wpAny_bind (wpAny_setEntries_of ho hd hf ?_)
 rw [if_neg (by simp)]
 @wpAny_bind (hN _ _ ?_)
 dsimp only
 wp_walk using wpAny_setField hoi hdi (by simp)
 ~raiseNew
 apply wpAny_bind
 apply wpAny_handled
 rw [hA]
 @wpAny_bind (wpAny_pure (wpAny_throw (wpAny_bind ?_)))
 @wpAny_isInstance (b:=true) (T := "StopIteration") ?_ isSubtype_stop ?_
 ·!⟨_,Heap.get?_push_size _ rfl,rfl⟩
 apply wpAny_pure
 apply hQ
 !((Heap.SameBut.update ..).extBut.push _).push _
##V5 {I S T:Addr} {o:Obj} {es:Array (Int×Value)} {ep i j:Nat} {t:SetTable} {v:Value} {hv:Int} {ps:Array Value} {Q:Option Value->Shared->Prop} (ho:s.heap.get? S=some o) (hd:o.data=.set es ep t) (hf:t.fits es.size=true) (it:rA s.heap I S (.ref T) i es.size ep)
  (ht:s.heap.IsTuple T ps) (hp:ps[i]? = some (rawInt j)) (he:es[j]? = some (hv,v))
  (hQ:∀ h',rA h' I S (.ref T) (i+1) es.size ep->Heap.SameBut I s.heap h'->Q (some v) { s with heap:=h' }):wpAny (model prog w) A (pyNext (.ref I)) Q E s:=by
 have tn:=it.typeIs
 &⟨oi,hoi,hci,hdi⟩:=it
 &⟨oT,hoT,_,nT,hdT⟩:=ht
 ~pyNext
 @wpAny_bind (wpAny_attempt (wpAny_callSpecial?_slot (name:=Str.ofString "__next__") tn Si.slot_next (wpAny_call_entry Si.slot_next tn Si.entry_next ?_ (Si.args_next _))))
 ~Builtin.«set_iterator.__next__»
 wp_walk
 rw [hdi]
 @wpAny_pure ?_
 dsimp only [rawInt]
 @wpAny_bind (wpAny_setEntries_of ho hd hf ?_)
 rw [if_neg (by simp)]
 ~seqItems?
 @wpAny_bind (wpAny_bind (wpAny_load hoT ?_))
 rw [hdT]
 @wpAny_pure ?_
 have e1:ps[((i:Nat):Int).toNat]? = some (.int (j:Int) 0):=hp
 dsimp only
 rw [e1]
 dsimp only
 ~setNextDrawn
 @wpAny_bind (wpAny_bind (wpAny_setState_of ho hd hf ?_))
 dsimp only
 rw [if_neg (by simp)]
 have e2:es[((j:Nat):Int).toNat]? = some (hv,v):=he
 rw [e2]
 @wpAny_pure ?_
 @wpAny_bind (wpAny_setField hoi hdi (by simp) (wpAny_pure ⟨_,rfl,wpAny_pure (hQ _ ⟨_,Heap.get?_update_self _ hoi (Obj.isFreed_of_fields (Obj.data_mapFields hdi _)),?_,?_⟩ (Heap.SameBut.update ..))⟩))
 ·!(Obj.cls_mapFields ..).trans hci
 ·rw [Obj.data_mapFields hdi]
  simp [rawInt]
##P1 {I S T:Addr} {o:Obj} {es:Array (Int×Value)} {ep i:Nat} {t:SetTable} {ps:Array Value} {Q:Option Value->Shared->Prop} (hh:A.handled=none) (ho:s.heap.get? S=some o) (hd:o.data=.set es ep t) (hf:t.fits es.size=true) (it:rA s.heap I S (.ref T) i es.size ep)
  (ht:s.heap.IsTuple T ps) (hp:ps[i]? = none) (hQ:∀ h',Heap.ExtBut I s.heap h'->Q none { s with heap:=h' }):wpAny (model prog w) A (pyNext (.ref I)) Q E s:=by
 have tn:=it.typeIs
 have hA:A.in1.handled=none:=hh
 &⟨oi,hoi,hci,hdi⟩:=it
 &⟨oT,hoT,_,nT,hdT⟩:=ht
 ~pyNext
 @wpAny_bind (wpAny_attempt (wpAny_callSpecial?_slot (name:=Str.ofString "__next__") tn Si.slot_next (wpAny_call_entry Si.slot_next tn Si.entry_next ?_ (Si.args_next _))))
 ~Builtin.«set_iterator.__next__»
 wp_walk
 rw [hdi]
 @wpAny_pure ?_
 dsimp only [rawInt]
 @wpAny_bind (wpAny_setEntries_of ho hd hf ?_)
 rw [if_neg (by simp)]
 ~seqItems?
 @wpAny_bind (wpAny_bind (wpAny_load hoT ?_))
 rw [hdT]
 @wpAny_pure ?_
 have e1:ps[((i:Nat):Int).toNat]? = none:=hp
 dsimp only
 rw [e1]
 dsimp only
 wp_walk using wpAny_setField hoi hdi (by simp),wpAny_setField (Heap.get?_update_self _ hoi (Obj.isFreed_of_fields (Obj.data_mapFields hdi _))) (Obj.data_mapFields hdi _) (by simp)
 ~raiseNew
 apply wpAny_bind
 apply wpAny_handled
 rw [hA]
 @wpAny_bind (wpAny_pure (wpAny_throw (wpAny_bind ?_)))
 @wpAny_isInstance (b:=true) (T := "StopIteration") ?_ isSubtype_stop ?_
 ·!⟨_,Heap.get?_push_size _ rfl,rfl⟩
 apply wpAny_pure
 apply hQ
 !(((Heap.SameBut.update ..).trans (Heap.SameBut.update ..)).extBut.push _).push _
end
end L6
end
section
namespace L6
open PySem PySem.Spec PyProof.Rows
##P2 {M:Model} {A:Around} {E:Value->Shared->Prop} {s:Shared} {src:Source} {n:Nat} {Q:Nat->Shared->Prop} (hn:n≠0) (h:∀ i d,i<n->Q i { s with drawn:=d }):wpAny M A (choose src n) Q E s:=fun Γ p hΓ=>by
 ~choose
 !⟨hn,h _ _ (Nat.mod_lt _ (Nat.pos_of_ne_zero hn))⟩
##rB {α:Type}:∀ (l:List α) (i:Nat) (x:α),l[i]? = some x->l.Perm (x::l.eraseIdx i)
 | [],i,x,h=>by simp at h
 | a::l,0,x,h=>by
  simp at h
  subst h
  !List.Perm.refl _
 | a::l,i+1,x,h=>by
  have q:=rB l i x (¥h)
  rw [List.eraseIdx_cons_succ]
  !(q.cons a).trans (List.Perm.swap ..)
##M4 {M:Model} {A:Around} {E:Value->Shared->Prop} {α:Type}:∀ (n:Nat) (l:List α) (s:Shared) {Q:List α->Shared->Prop},l.length=n->(∀ l' d,l'.Perm l->Q l' { s with drawn:=d })->wpAny M A (drawOrder n l) Q E s
 | 0,l,s,Q,hl,h=>by
  have:l=[]:=List.length_eq_zero_iff.mp hl
  subst this
  ~drawOrder
  !wpAny_pure (h [] s.drawn (List.Perm.refl _))
 | n+1,[],s,Q,hl,h=>by simp at hl
 | n+1,a::l,s,Q,hl,h=>by
  ~drawOrder
  @wpAny_bind (P2 (by simp) fun i d hi=>?_)
  have e:(a::l)[i]? = some ((a::l)[i]):=List.getElem?_eq_getElem hi
  rw [e]
  @wpAny_bind (M4 n _ _ (by rw [List.length_eraseIdx_of_lt hi]; simp at hl ⊢; omega) fun l' d' hp=>wpAny_pure ?_)
  !h _ d' ((hp.cons _).trans (rB _ _ _ e).symm)
##M5 {α:Type} (f:Nat->Nat):∀ (n k:Nat) (l:List α) (out:Array α),l.length<=n->(pickOrder.go f n k l out).toList.Perm (out.toList++l)
 | 0,k,l,out,h=>by
  have:l=[]:=List.length_eq_zero_iff.mp (Nat.le_zero.mp h)
  subst this
  ~pickOrder.go
  rw [List.append_nil]
 | n+1,k,l,out,h=>by
  ~pickOrder.go
  cases l with
  | nil=>simp
  | cons a l =>
   have hi:f k % (a::l).length<(a::l).length:=Nat.mod_lt _ (by simp)
   have e:(a::l)[f k % (a::l).length]? = some ((a::l)[f k % (a::l).length]):=List.getElem?_eq_getElem hi
   rw [e]
   @(M5 f n (k+1) _ _ (by rw [List.length_eraseIdx_of_lt hi]; simp at h ⊢; omega)).trans ?_
   rw [Array.toList_push,List.append_assoc]
   !List.Perm.append_left _ (rB _ _ _ e).symm
##uD {α:Type} (f:Nat->Nat) (xs:Array α):(pickOrder f xs).toList.Perm xs.toList:=by
 have q:=M5 f xs.size 0 xs.toList #[] (by simp)
 simpa [pickOrder] using q
section
variable {prog:Program} {w:World} {A:Around} {E:Value->Shared->Prop} {s:Shared}
##sU {S:Addr} {o:Obj} {es:Array (Int×Value)} {ep:Nat} {t:SetTable} {Q:Option (Value×Nat)->Shared->Prop} (hw:eL w=false) (ho:s.heap.get? S=some o) (hd:o.data=.set es ep t) (hf:t.fits es.size=true) (q i:Nat)
  (h:Q (((pickOrder (w.params.setOrder S ep) es)[i]?).map fun e=>(e.2,q)) s):wpAny (model prog w) A (setNext S q i ep) Q E s:=by
 have hb:w.params.followText "set-order" = true:=by ~eL at hw; simpa using hw
 ~setNext
 apply wpAny_bind; @wpAny_setState_of ho hd hf ?_
 dsimp only
 @wpAny_bind (pM hb ?_)
 rw [if_pos rfl,if_neg (by simp)]
 @wpAny_bind ?_
 ~setWalk
 apply wpAny_bind; @wpAny_setState_of ho hd hf ?_
 dsimp only
 @wpAny_bind (pM hb ?_)
 rw [if_pos rfl]
 !wpAny_bind (wpAny_askSetting (wpAny_pure (wpAny_pure h)))
##yE {h h':Heap} {I S:Addr} {f:Value} {i n ep:Nat} (x:rA h I S f i n ep) (k:∀ o,h.get? I=some o->h'.get? I=some o):rA h' I S f i n ep:=let ⟨o,a,b⟩:=x; ⟨o,k o a,b⟩
##EA {I S:Addr} {f:Value} {i n ep:Nat} {Q:Value->Shared->Prop} (it:rA s.heap I S f i n ep) (h:Q (.ref I) s):wpAny (model prog w) A (pyIter (.ref I)) Q E s :=
 wpAny_pyIter_slot it.typeIs Si.B4 (wpAny_call_entry Si.B4 it.typeIs Si.J2 (wpAny_pure ⟨_,rfl,_,_,it.typeIs,Si.slot_next.lookup,h⟩) (Si.P0 _))
def slotAt (t:SetTable):Nat->Nat
 | 0=>0
 | i+1=>t.place.getD i 0+1
##yF {t:SetTable} (up:Up t.place.toList) {i:Nat} (hi:i<=t.place.size):SetTable.below t.place (slotAt t i)=i:=by
 cases i with
 | zero=>!GR up
 | succ i =>
  have e:t.place[i]? = some (t.place.getD i 0):=by
   rw [Array.getD_eq_getD_getElem?,Array.getElem?_eq_getElem °]
   rfl
  !J0 up e
##yG {t:SetTable} {n:Nat} (h:t.fits n=true):t.place.size=n:=by
 ~SetTable.fits at h
 simp at h
 !h.1
##GX {I S:Addr} {o:Obj} {es:Array (Int×Value)} {ep:Nat} {t:SetTable} (hh:A.handled=none) (hw:eL w=true) (hIS:S≠I) (hd:o.data=.set es ep t) (hT:Q4 true t es.size) (hp:¬ (!t.plain&&es.size>1)=true) :
  Walks prog w A I [I,S] [I] es.size (fun i v=>(es.toList.map (·.2))[i]? = some v) (fun i h=>h.get? S=some o/\i<=es.size/\rA h I S (rawInt (slotAt t i)) i es.size ep) where
 sub:=fun c hc=>by simp at hc; simp [hc]
 frame:=fun i h h' st k=>⟨k S (by simp) o st.1,st.2.1,yE st.2.2 fun o e=>k I (by simp) o e⟩
 item:=fun i s R E hi st hQ=>by
  &⟨ho,hle,it⟩:=st
  have e1:es[i]? = some (es[i].1,es[i].2):=Array.getElem?_eq_getElem hi
  have sz:=yG hT.fit
  have e2:t.place[i]? = some (t.place.getD i 0):=by
   rw [Array.getD_eq_getD_getElem?,Array.getElem?_eq_getElem °]
   rfl
  @GW (v:=es[i].2) (p:=slotAt t (i+1)) ho hd hT.fit it (fun Q1 E1 q=>p9 hw ho hd hT hp (yF hT.up °) (by rw [e1,e2]; !q) i) fun h' it' sb=>?_
  !hQ _ h' s.toks (by simp [hi]) ⟨by rw [sb.2 S hIS]; !ho,hi,it'⟩ fun b u hb e=>by rw [sb.2 b (¥hb)]; !e
 done:=fun s Q E st hQ=>by
  &⟨ho,hle,it⟩:=st
  have sz:=yG hT.fit
  @B5 hh ho hd hT.fit it (fun Q1 E1 q=>p9 hw ho hd hT hp (yF hT.up °) (by rw [Array.getElem?_eq_none °]; !q) es.size) fun h' ex=>?_
  !hQ h' s.toks fun b u hb e=>ex b u (¥hb) e
 self:=fun i s Q E st hQ=>EA st.2.2 hQ
##J3 {I S:Addr} {o:Obj} {es:Array (Int×Value)} {ep:Nat} {t:SetTable} (hh:A.handled=none) (hw:eL w=false) (hIS:S≠I) (hd:o.data=.set es ep t) (hf:t.fits es.size=true) :
  Walks prog w A I [I,S] [I] es.size (fun i v=>((pickOrder (w.params.setOrder S ep) es).toList.map (·.2))[i]? = some v) (fun i h=>h.get? S=some o/\i<=es.size/\rA h I S (rawInt (0:Nat)) i es.size ep) where
 sub:=fun c hc=>by simp at hc; simp [hc]
 frame:=fun i h h' st k=>⟨k S (by simp) o st.1,st.2.1,yE st.2.2 fun o e=>k I (by simp) o e⟩
 item:=fun i s R E hi st hQ=>by
  &⟨ho,hle,it⟩:=st
  have sz:(pickOrder (w.params.setOrder S ep) es).size=es.size:=by have q:=(uD (w.params.setOrder S ep) es).length_eq; simpa using q
  generalize hP:pickOrder (w.params.setOrder S ep) es=P at sz hQ
  have e1:P[i]? = some P[i]:=Array.getElem?_eq_getElem °
  @GW (v:=P[i].2) (p:=0) ho hd hf it (fun Q1 E1 q=>sU hw ho hd hf 0 i (by rw [hP,e1]; !q)) fun h' it' sb=>?_
  have hi2:i<P.size:=by omega
  !hQ _ h' s.toks (by simp [hi2]) ⟨by rw [sb.2 S hIS]; !ho,hi,it'⟩ fun b u hb e=>by rw [sb.2 b (¥hb)]; !e
 done:=fun s Q E st hQ=>by
  &⟨ho,hle,it⟩:=st
  have sz:(pickOrder (w.params.setOrder S ep) es).size=es.size:=by have q:=(uD (w.params.setOrder S ep) es).length_eq; simpa using q
  @B5 hh ho hd hf it (fun Q1 E1 q=>sU hw ho hd hf 0 es.size (by rw [Array.getElem?_eq_none °]; !q)) fun h' ex=>?_
  !hQ h' s.toks fun b u hb e=>ex b u (¥hb) e
 self:=fun i s Q E st hQ=>EA st.2.2 hQ
##GY {I S T:Addr} {o:Obj} {es:Array (Int×Value)} {ep:Nat} {t:SetTable} {js:List Nat} (hh:A.handled=none) (hIS:S≠I) (hTI:T≠I) (hd:o.data=.set es ep t) (hf:t.fits es.size=true) (hj:js.Perm (List.range es.size)) :
  Walks prog w A I [I,S,T] [I] es.size (fun i v=>((js.map fun j=>(es.toList.map (·.2)).getD j .none))[i]? = some v)
   (fun i h=>h.get? S=some o/\h.IsTuple T ((js.map fun j:Nat=>rawInt (j:Int)).toArray)/\rA h I S (.ref T) i es.size ep) where
 sub:=fun c hc=>by simp at hc; simp [hc]
 frame:=fun i h h' st k=>⟨k S (by simp) o st.1,st.2.1.at fun o e=>k T (by simp) o e,yE st.2.2 fun o e=>k I (by simp) o e⟩
 item:=fun i s R E hi st hQ=>by
  &⟨ho,ht,it⟩:=st
  have hl:js.length=es.size:=by have q:=hj.length_eq; simpa using q
  have hi2:i<js.length:=by omega
  have hlt:js[i]<es.size:=by have q:=hj.mem_iff.1 (List.getElem_mem hi2); simpa using q
  have e1:es[js[i]]? = some (es[js[i]].1,es[js[i]].2):=Array.getElem?_eq_getElem hlt
  @V5 (j:=js[i]) (v:=es[js[i]].2) ho hd hf it ht (by simp [hi2]) e1 fun h' it' sb=>?_
  !hQ _ h' s.toks (by simp [hi2,hlt]) ⟨by rw [sb.2 S hIS]; !ho,ht.at fun o e=>by rw [sb.2 T hTI]; !e,it'⟩ fun b u hb e=>by rw [sb.2 b (¥hb)]; !e
 done:=fun s Q E st hQ=>by
  &⟨ho,ht,it⟩:=st
  have hl:js.length=es.size:=by have q:=hj.length_eq; simpa using q
  @P1 hh ho hd hf it ht (by simp [hl]) fun h' ex=>?_
  !hQ h' s.toks fun b u hb e=>ex b u (¥hb) e
 self:=fun i s Q E st hQ=>EA st.2.2 hQ
end
section
variable {prog:Program} {w:World} {A:Around} {E:Value->Shared->Prop} {s:Shared}
def Gives (prog:Program) (w:World) (I:Addr) (fp:List Addr) (vs:List Value) (h:Heap):Prop :=
 ∃ (n:Nat) (P:Nat->Value->Prop) (St:Nat->Heap->Prop),n=vs.length/\(∀ i v,P i v->vs[i]? = some v)/\St 0 h /\ ∀ A:Around,A.handled=none->Walks prog w A I fp [I] n P St
##V6 {S:Addr} {o:Obj} {es:Array (Int×Value)} {ep:Nat} {t:SetTable} {Q:Bool->Shared->Prop} (ho:s.heap.get? S=some o) (hd:o.data=.set es ep t) (hf:t.fits es.size=true)
  (h:Q (eL w&&(!t.plain&&es.size>1)) s):wpAny (model prog w) A (setDrawn S) Q E s:=by
 ~setDrawn
 apply wpAny_bind; @wpAny_setState_of ho hd hf ?_
 dsimp only
 @wpAny_bind (pM (b:=!eL w) (by ~eL; simp) (wpAny_pure ?_))
 rw [Bool.not_not]
 !h
##V7 {S:Addr} {o:Obj} {ns:List Int} {Q:Value->Shared->Prop} (ho:s.heap.get? S=some o) (hi:pW (eL w) o ns)
  (h:∀ h' d I fp vs ms,(∀ b u,s.heap.get? b=some u->h'.get? b=some u)->(∀ b∈fp,b=S\/s.heap.objs.size<=b)->s.heap.objs.size<=I->IntsAre vs ms->ms.Perm ns->Gives prog w I fp vs h'->Q (.ref I) { s with heap:=h',drawn:=d }) :
  wpAny (model prog w) A (pyIter (.ref S)) Q E s:=by
 &⟨es,ep,t,hx,hd,hE,hp,hT,hs⟩:=hi
 have tS:s.TypeIs (.ref S) "set" := ⟨o,ho,hx.1⟩
 have lS:=Heap.lt_size ho
 have aAw:∀ l:List (Int×Value),(∀ e∈l,GU e)->IntsAre (l.map (·.2)) (l.map qZ):=by
  intro l
  induction l with
  | nil=>intro _; !.nil
  | cons e l ih =>
   intro he
   &⟨m,tk,rfl⟩:=he e List.mem_cons_self
   !.cons m tk (ih fun x hx=>he x (List.mem_cons_of_mem _ hx))
 @wpAny_pyIter_slot tS F.slot_set_iter (wpAny_call_entry F.slot_set_iter tS Si.yD ?_ (F.args_set_iter_1 _))
 ~Builtin.«frozenset.__iter__» Builtin.Frozenset.slot0 Builtin.Frozenset.sizeOf
 have step:∀ (f:Value) (h1:Heap) (d:Drawn),(∀ b u,s.heap.get? b=some u->h1.get? b=some u)->(∀ I:Addr,I=h1.objs.size->Q (.ref I) { s with heap:=h1.push { cls:=.type "set_iterator",data:=.fields #[f,rawInt (0:Nat),.ref S,rawInt es.size,rawInt ep] },drawn:=d }) ->
   wpAny (model prog w) A.in1 (do ret (<- newFields "set_iterator" [f,rawInt 0,.ref S,rawInt es.size,rawInt (<- setEpoch S)])) (fun fin s'=>∃ v,fin=.done (.ret v) /\ ∃ T' r,s'.TypeIs v T'/\typeLookup (.type T') "__next__" = pure (some r)/\Q v s') E { s with heap:=h1,drawn:=d }:=fun f h1 d keep q=>by
  @wpAny_bind (wpAny_setEpoch_of (s:={ s with heap:=h1,drawn:=d }) (keep S o ho) hd hT.fit ?_)
  @wpAny_bind (wpAny_newObj_type (wpAny_pure ⟨_,rfl,_,_,⟨_,Heap.get?_push_size _ rfl,rfl⟩,Si.slot_next.lookup,q _ rfl⟩))
 wp_walk using wpAny_setEntries_of ho hd hT.fit,V6 ho hd hT.fit
 by_cases hdr:(eL w&&(!t.plain&&decide (es.size>1)))=true
 ·rw [if_pos hdr]
  rw [Bool.and_eq_true] at hdr
  @wpAny_bind (M4 es.size (List.range es.size) s (by simp) fun js d hj=>?_)
  have lj:js.length=es.size:=by have q:=hj.length_eq; simpa using q
  @wpAny_bind (wpAny_newTuple ?_ (by rw [List.length_map,lj]; !fits_of_scanBound hs))
  @step (.ref s.heap.objs.size) _ d (fun b u e=>Heap.get?_push_of_some _ e) fun I eI=>?_
  have zI:@Eq Nat I (s.heap.objs.size+1):=by rw [eI,Heap.size_push]
  have nSI:S≠I:=fun z=>by rw [z,zI] at lS; !absurd (Nat.lt_of_succ_lt lS) (Nat.lt_irrefl _)
  have nTI:s.heap.objs.size≠I:=fun z=>by rw [zI] at z; !Nat.succ_ne_self _ z.symm
  have gI:s.heap.objs.size<=I:=by rw [zI]; !Nat.le_succ _
  @h _ d I [I,S,s.heap.objs.size] (js.map fun j=>(es.toList.map (·.2)).getD j .none) (js.map fun j=>(es.toList.map qZ).getD j 0) (fun b u e=>Heap.get?_push_of_some _ (Heap.get?_push_of_some _ e)) (fun b hb=>?_) gI ?_ ?_ ⟨es.size,_,_,by simp [lj],fun i v q=>q,?_,fun A' hA=>GY hA (t:=t) nSI nTI hd hT.fit hj⟩
  ·simp only [List.not_mem_nil,List.mem_cons,or_false] at hb
   rcases hb with z | z | z
   ·!.inr (z▸gI)
   ·!.inl z
   ·!.inr (Nat.le_of_eq z.symm)
  ·have all:∀ l:List Nat,(∀ j∈l,j<es.size)->IntsAre (l.map fun j=>(es.toList.map (·.2)).getD j .none) (l.map fun j=>(es.toList.map qZ).getD j 0):=by
    intro l
    induction l with
    | nil=>intro _; !.nil
    | cons j l ih =>
     intro hl
     have hj1:=hl j List.mem_cons_self
     &⟨m,tk,e⟩:=hE es[j] (by simp [Array.getElem_mem])
     have e1:(es.toList.map (·.2)).getD j .none=.int m tk:=by simp [hj1,e]
     have e2:(es.toList.map qZ).getD j 0=m:=by simp [hj1,e,qZ]
     rw [List.map_cons,List.map_cons,e1,e2]
     !.cons m tk (ih fun x hx=>hl x (List.mem_cons_of_mem _ hx))
   !all js fun j hm=>by have q:=hj.mem_iff.1 hm; simpa using q
  ·@((hj.map _).trans ?_).trans hp
   have e:(List.range es.size).map (fun j=>(es.toList.map qZ).getD j 0)=es.toList.map qZ:=by
    @List.ext_getElem? fun i=>?_
    by_cases hi:i<es.size
    ·simp [hi]
    ·simp [hi]
   rw [e]
  ·@⟨Heap.get?_push_of_some _ (Heap.get?_push_of_some _ ho),⟨_,Heap.get?_push_of_some _ (Heap.get?_push_size _ rfl),rfl,_,rfl⟩,⟨_,by rw [eI]; !Heap.get?_push_size _ rfl,rfl,rfl⟩⟩
 ·rw [if_neg hdr]
  @wpAny_bind (wpAny_pure (step (rawInt 0) s.heap s.drawn (fun b u e=>e) fun I eI=>?_))
  have gI:s.heap.objs.size<=I:=Nat.le_of_eq eI.symm
  have nSI:S≠I:=fun z=>by rw [z,eI] at lS; !absurd lS (Nat.lt_irrefl _)
  have at0:∀ f,rA (s.heap.push { cls:=.type "set_iterator",data:=.fields #[f,rawInt (0:Nat),.ref S,rawInt es.size,rawInt ep] }) I S f 0 es.size ep:=fun f=>⟨_,by rw [eI]; !Heap.get?_push_size _ rfl,rfl,rfl⟩
  have fpo:∀ b∈[I,S],b=S\/s.heap.objs.size<=b:=fun b hb=>by
   simp only [List.not_mem_nil,List.mem_cons,or_false] at hb
   rcases hb with z | z
   ·!.inr (z▸gI)
   ·!.inl z
  cases hw:eL w with
  | true =>
   have hpl:¬ (!t.plain&&es.size>1)=true:=fun z=>hdr (by rw [hw,z]; rfl)
   !h _ s.drawn I [I,S] (es.toList.map (·.2)) (es.toList.map qZ) (fun b u e=>Heap.get?_push_of_some _ e) fpo gI (aAw _ hE) hp
    ⟨es.size,_,_,by simp,fun i v q=>q,⟨Heap.get?_push_of_some _ ho,Nat.zero_le _,at0 _⟩,fun A' hA=>GX hA hw nSI hd (hw▸hT) hpl⟩
  | false =>
   have pp:=uD (w.params.setOrder S ep) es
   !h _ s.drawn I [I,S] ((pickOrder (w.params.setOrder S ep) es).toList.map (·.2)) ((pickOrder (w.params.setOrder S ep) es).toList.map qZ) (fun b u e=>Heap.get?_push_of_some _ e) fpo gI (aAw _ fun e he=>hE e (pp.mem_iff.1 he)) ((pp.map qZ).trans hp)
    ⟨es.size,_,_,by have q:=pp.length_eq; simp at q ⊢; omega,fun i v q=>q,⟨Heap.get?_push_of_some _ ho,Nat.zero_le _,at0 _⟩,fun A' hA=>J3 hA hw nSI hd hT.fit⟩
##V8 {S:Addr} {o:Obj} {Q:Bool->Shared->Prop} (ho:s.heap.get? S=some o) (hc:o.cls=.type "set") (h:Q false s):wpAny (model prog w) A (Builtin.List.listLengthHint (.ref S)) Q E s:=by
 have tS:s.TypeIs (.ref S) "set" := ⟨o,ho,hc⟩
 have e:splitId "set.__len__" = some ("set", "__len__"):=by kernel_rfl
 show wpAny _ _ (Builtin.List.listLengthHint _) _ _ _; ~Builtin.List.listLengthHint
 @wpAny_bind (wpAny_specialOf tS F.slot_set_len.lookup ?_)
 dsimp only
 rw [e]
 dsimp only
 @wpAny_bind (wpAny_isInstance tS sub_set_self ?_)
 rw [if_neg §,if_pos (by kernel_rfl)]
 !wpAny_bind (wpAny_typeOf tS (wpAny_pure h))
##J4 {L S:Addr} {o:Obj} {ns:List Int} {c0:Nat} {res:Value} {R:Result->Shared->Prop} (hh:A.handled=none) (ho:s.heap.get? S=some o) (hi:pW (eL w) o ns) (hL:s.heap.get? L=some { cls:=.type "list",data:=.seq #[] c0 })
  (hR:∀ h' d tk acc c' ms,(∀ b u,b≠L->s.heap.get? b=some u->h'.get? b=some u)->h'.get? L=some { cls:=.type "list",data:=.seq acc c' }->IntsAre acc.toList ms->ms.Perm ns->R (.ok (.ret res)) { s with heap:=h',drawn:=d,toks:=tk }) :
  wpAny (model prog w) A.in1 (Builtin.List.listExtendWith (.ref L) (.ref S) res) (fun fin s'=>match fin with | .done f=>R (.ok f) s' | .again c'=>c'.quiet=true/\codeAny (model prog w) A c' R s') (fun e s'=>R (.error e) s') s:=by
 have hx:o.ExactSet:=by &⟨_,_,_,hx,_⟩:=hi; !hx
 have hns:ns.length<scanBound:=by &⟨es,_,_,_,_,_,hp,_,hs⟩:=hi; rw [<- hp.length_eq]; simpa using hs
 have nLS:L≠S:=fun z=>by rw [z,ho] at hL; cases hL; have q:=hx.1; simp at q
 have lL:=Heap.lt_size hL
 show wpAny _ _ (Builtin.List.listExtendWith _ _ _) _ _ _; ~Builtin.List.listExtendWith
 @wpAny_bind (wpAny_typeOf (T := "set") ⟨o,ho,hx.1⟩ ?_)
 have e1:Builtin.List.listSameRef (.ref L) (.ref S)=false:=by simp [Builtin.List.listSameRef,nLS]
 rw [if_neg (by rw [e1]; decide)]
 @wpAny_bind (V7 (A:=A.in1) ho hi fun h1 d I fp vs ms keep hfp gI hv hm gv=>?_)
 @wpAny_bind (wpAny_holding (V8 (s:={ s with heap:=h1,drawn:=d }) (keep S o ho) hx.1 ?_))
 rw [if_pos (by kernel_rfl)]
 ~Builtin.List.listTouch
 have g1:=keep L _ hL
 have gb:∀ (f:Array Value->Array Value) (g:Heap) (c:Nat) (xs:Array Value),g.get? L=some { cls:=.type "list",data:=.seq xs c } -> ∃ c',(g.update L (Obj.mapSeq f)).get? L=some { cls:=.type "list",data:=.seq (f xs) c' }:=fun f g c xs e=>⟨_,get?_update_seq e f⟩
 @wpAny_bind (wpAny_rule (wpAny_bind (wpAny_bind (listUpdate_at (s:={ s with heap:=h1,drawn:=d }) g1 rfl ?_ (Nat.zero_le _) (by simp)))))
 &⟨c2,g2⟩:=gb (·.push .none) h1 _ _ g1
 @listUpdate_at (s:={ s with heap:=h1.update L (Obj.mapSeq (·.push .none)),drawn:=d }) g2 rfl ?_ (by simp; rw [sizeLine_eq]; omega) (by simp)
 &⟨c3,g3⟩:=gb (·.pop) _ _ _ g2
 &⟨n,P,St,en,hP,st0,W⟩:=gv
 have nLI:L≠I:=fun z=>by rw [z] at lL; !absurd (Nat.lt_of_lt_of_le lL gI) (Nat.lt_irrefl _)
 have nLf:L∉fp:=fun z=>by
  rcases hfp L z with q | q
  ·!nLS q
  ·!absurd (Nat.lt_of_lt_of_le lL q) (Nat.lt_irrefl _)
 have W1:=(W A.in1 hh).toS
 have nn:n<=sizeLine:=by rw [en,IntsAre.length hv,hm.length_eq]; !fits_of_scanBound hns
 @wpAny_pure ⟨plainId_quiet F.plain_extend_loop _,codeAny_extend_loopS W1 nn L nLf res n 0 _ #[] _ rfl (Nat.zero_le _) (W1.frame 0 { s with heap:=h1,drawn:=d } _ s.toks st0 (Nat.le_refl _) fun b hb u e=>?_) g3 (ItemsOf.nil _) fun s' acc c' mv hL' it=>?_⟩
 ·have nb:L≠b:=fun z=>nLf (z▸hb)
  !(Heap.get?_update_other _ _ nb).trans ((Heap.get?_update_other _ _ nb).trans e)
 ·have es':s' = { s with heap:=s'.heap,drawn:=d,toks:=s'.toks }:=by
   &⟨h',g',d',t',o'⟩:=s'
   have q1:=mv.gens
   have q2:=mv.drawn
   have q3:=mv.os
   dsimp only at q1 q2 q3
   subst q1
   subst q2
   subst q3
   rfl
  have ev:acc.toList=vs:=by
   @List.ext_getElem? fun j=>?_
   by_cases hj:j<n
   ·have e1:acc[j]? = some (acc[j]'(by rw [it.1]; !hj)):=Array.getElem?_eq_getElem _
    rw [Array.getElem?_toList,e1]
    !(hP j _ (it.2 j _ e1)).symm
   ·rw [List.getElem?_eq_none (by simp [it.1]; omega),List.getElem?_eq_none °]
  rw [es']
  @hR _ d _ acc c' ms (fun b u nb e=>mv.heap b u (fun z=>?_) ?_) hL' (ev▸hv) hm
  ·rcases List.mem_cons.1 z with q | q
   ·!nb q
   ·rw [List.mem_singleton] at q
    rw [q] at e
    !absurd (Nat.lt_of_lt_of_le (Heap.lt_size e) gI) (Nat.lt_irrefl _)
  ·!(Heap.get?_update_other _ _ (Ne.symm nb)).trans ((Heap.get?_update_other _ _ (Ne.symm nb)).trans (keep b u e))
end
section
variable {prog:Program} {w:World} {A:Around} {E:Value->Shared->Prop} {s:Shared}
##GZ {S:Addr} {o:Obj} {ns:List Int} {Q:List Value->Shared->Prop} (hh:A.handled=none) (ho:s.heap.get? S=some o) (hi:pW (eL w) o ns)
  (h:∀ h' d tk vs ms,s.heap.objs.size<=h'.objs.size->(∀ b u,s.heap.get? b=some u->h'.get? b=some u)->IntsAre vs ms->ms.Perm ns->Q vs { s with heap:=h',drawn:=d,toks:=tk }):wpAny (model prog w) A (collect (.ref S)) Q E s:=by
 ~collect
 apply wpAny_bind
 apply wpAny_runValue
 @codeAny_builtin F.entry_proto_collect ?_
 rw [Around.under_plainId F.plain_proto_collect]
 wp_walk
 @⟨plainId_quiet F.plain_list_iadd _,codeAny_builtin F.entry_list_iadd ?_⟩
 rw [Around.under_plainId F.plain_list_iadd]
 @J4 (R:=wants _ _) (s:={ s with heap:=s.heap.push { cls:=.type "list",data:=.seq #[] } }) hh (Heap.get?_push_of_some _ ho) hi (Heap.get?_push_size _ rfl) fun h' d tk acc c' ms keep gL hv hm=>?_
 apply wpAny_bind
 apply wpAny_load gL
 !wpAny_pure (h h' d tk acc.toList ms (Nat.le_of_lt (Heap.lt_size gL)) (fun b u e=>keep b u (Nat.ne_of_lt (Heap.lt_size e)) (Heap.get?_push_of_some _ e)) hv hm)
##J5 {S:Addr} {o:Obj} {ns:List Int} {Q:Value->Shared->Prop} (hh:A.handled=none) (ho:s.heap.get? S=some o) (hi:pW (eL w) o ns) (h64:ns.length<64)
  (h:∀ h' d tk l out ns' e,(∀ b u,s.heap.get? b=some u->h'.get? b=some u)->s.heap.objs.size<=l->IntsAre out ns'->ns'.Perm ns->ns'.Pairwise (· <= ·)->h'.get? l=some (seqObj "list" out.toArray e)->Q (.ref l) { s with heap:=h',drawn:=d,toks:=tk }) :
  wpAny (model prog w) A (call (.builtin "sorted") [.ref S]) Q E s:=by
 apply Calls.call_function_entry kind_sorted plain_sorted entry_sorted (args_sorted1 _)
 ~Builtin.«sorted»
 @wpAny_bind (m:=checkCount "sorted" 1 1 _) (wpAny_pure (wpAny_bind (GZ (A:=A.in1) hh ho hi fun h1 d tk vs ms l1 keep hv hm=>?_)))
 have lv:vs.length<64:=by rw [IntsAre.length hv,hm.length_eq]; !h64
 apply wpAny_bind; @wpAny_newList ?_ (by rw [sizeLine_eq]; omega)
 have g1:(h1.push (seqObj "list" vs.toArray 0)).get? h1.objs.size=some (seqObj "list" vs.toArray 0):=Heap.get?_push_size _ rfl
 @wpAny_bind (wpAny_holding (wpAny_call_entry slot_list_sort ⟨_,g1,rfl⟩ entry_list_sort (list_sort_tree g1 hv lv fun out ns' a1 a2 a3=>⟨_,rfl,?_⟩) (args_list_sort _)))
 &⟨e,g2⟩:=sortedHeap_at (out:=out) g1
 @wpAny_pure ⟨_,rfl,h _ d tk _ out.toList ns' e (fun b u q=>?_) l1 a1 (a2.trans hm) a3 (¥g2)⟩
 have lb:=Heap.lt_size (keep b u q)
 rw [sortedHeap_old (Nat.ne_of_lt lb) (by rw [Heap.size_push]; !Nat.lt_succ_of_lt lb)]
 !Heap.get?_push_of_some _ (keep b u q)
end
end L6
end
section
namespace L6
open PySem PySem.Spec PyProof.Rows L2 L3 L4
##uX:∀ (ks ns:List Int),iJ ns ks=ks.foldl putN ns
 | [],ns=>rfl
 | k::ks,ns=>by
  rw [iJ,uX ks,List.foldl_cons]
  rfl
##yH:∀ (ks ns:List Int),(iJ ns ks).length<=ns.length+ks.length
 | [],ns=>Nat.le_refl _
 | k::ks,ns=>by
  have a:=yH ks (J1 ns k)
  have b:=GV ns k
  rw [iJ,List.length_cons]
  omega
def aDH (w:World) (a:Addr) (ns:List Int):HO:=.ext fun h=>∃ o,h.get? a=some o/\pW (eL w) o ns
section
variable {X:Cx}
##P3 {pins:List (Addr×Obj)} {σ:L2.St} {H:Hp} {s:Shared} {d:Drawn} (I:Inv X pins σ H s):Inv X pins σ H { s with drawn:=d }:=⟨I.ok,I.os,I.bare,I.base,I.loc,I.cell,I.free,I.mI,I.pin,I.hok,I.len⟩
def aLw (w:World) (K:PySem.W.Frag):List V->Hp->VK->Prop:=fun xs H Q=>∃ (a:Addr) (ns:List Int),xs=[.ref a]/\gA K H a (ns.map V.int)/\ns.length<64 /\ ∀ p,H p=none->Q (.ref p) (upd H p (aDH w p (iJ [] ns)))
##P4 (hc:X.calm=true):jI X (.type "set") (aLw X.w X.K):=by
 intro pins s σ H xs us Q I r h
 &⟨a,ns,rfl,ha,h64,q⟩:=h
 &⟨u,rfl,ru⟩:=vals1 r
 cases ru
 &⟨its,rv,pl,hz⟩:=I.tuple ha
 have hi:=intsAre_of rv
 &⟨ot,hot,hct,nt,hdt⟩:=id pl
 @V4 (items:=its.toArray) (ns:=ns) (I.ok.hd hc) (¥hi) pl (by ~scanBound; omega) fun h' tk o' keep g i=>?_
 @⟨.ref s.heap.objs.size,_,I.laid (t':=tk) (o:=aDH X.w s.heap.objs.size (iJ [] ns)) keep (Nat.le_refl _) ⟨⟨o',g,i⟩,⟨o',g⟩,fun h1 h2 z k=>?_⟩,rfl,q _ (I.hok.fresh (Nat.le_refl _))⟩
 &⟨o2,e2,i2⟩:=z
 !⟨o2,k o2 e2,i2⟩
def aDI (w:World):List V->Hp->VK->Prop:=fun xs H Q=>∃ (a:Addr) (ns:List Int),xs=[.ref a]/\H a=some (aDH w a ns)/\ns.length<64 /\ ∀ ns':List Int,ns'.Perm ns->ns'.Pairwise (· <= ·) -> ∀ p,H p=none->Q (.ref p) (upd H p (.lst (ns'.map V.int)))
##J6 (hc:X.calm=true):jI X (.builtin "sorted") (aDI X.w):=by
 intro pins s σ H xs us Q I r h
 &⟨a,ns,rfl,ha,h64,q⟩:=h
 &⟨u,rfl,ru⟩:=vals1 r
 cases ru
 &⟨⟨o,ho,hi⟩,_⟩:=I.hok a _ ha
 @J5 (I.ok.hd hc) ho hi h64 fun h' d tk l out ns' e keep hl a1 a2 a3 g=>?_
 have hz2:ns'.length<=sizeLine:=by rw [a2.length_eq,sizeLine_eq]; omega
 have I1:=I.laid (t':=tk) (a:=l) (o:=.lst (ns'.map V.int)) keep hl ⟨by rw [List.length_map]; !hz2,out,e,pI a1,by simpa [seqObj] using g⟩
 !⟨.ref l,_,P3 (d:=d) I1,rfl,q ns' a2 a3 l (I.hok.fresh hl)⟩
##J7 {p pos p2 pos2:Pos} {e:Expr} {t:AF} (hc:X.calm=true) (hm:X.mg "sorted" = none) (hms:X.mg "set" = none) (ha:zZ X [e] t) (hg:Gl X "sorted" := by rfl) (hgs:Gl X "set" := by rfl)
  (hs:starEach [e] X.env=(false,eval e X.env)::starEach [] X.env:=by rfl) (he:starEach [.Call (.Name "set" p2) [e] [] pos2] X.env=(false,eval (.Call (.Name "set" p2) [e] [] pos2) X.env)::starEach [] X.env:=by rfl) :
  pL X (.Call (.Name "sorted" p) [.Call (.Name "set" p2) [e] [] pos2] [] pos) (bF gF t) :=
 imp (sH (J6 hc) hg hm PyProof.Rows.boot_sorted (nE (pH (P4 hc) hgs hms PySem.Pv.boot_set ha § § hs (by rfl)) xM he) § § he (by rfl)) fun σ H Q aGO=>by
  &⟨S,ρ,Q3,fc,sl,⟨d,ed,q3⟩,k⟩:=aGO
  &⟨ds,eds,ed⟩:=bnd ed
  @⟨S,ρ,fun es=>es=ds,fc,sl,⟨_,eds,rfl⟩,fun vs H1 es s1 d1 q1=>?_⟩
  subst q1
  ~gF at ed
  split at ed
  ·rename_i a
   &⟨ns,e1,ed⟩:=bnd ed
   by_cases hl:ns.length<64
   ·rw [if_pos hl] at ed
    cases ed
    rw [ints_of e1] at d1
    &⟨v,r,rfl,h1,h2⟩:=d1.bV
    simp only [bC] at h2
    subst h2
    simp only [Dn] at h1
    &⟨t1,xs,rfl,ht,dt⟩:=h1
    rw [bC.ints.mp dt] at ht
    @⟨t1,ns,rfl,(gA.of ht),hl,fun p hp=>⟨p,iJ [] ns,rfl,bD,Nat.lt_of_le_of_lt (yH ns []) (¥hl),fun ns' pm so l hl2=>?_⟩⟩
    have e3:ns' = sortI (CM ns):=by
     have e4:iJ [] ns=CM ns:=uX ns []
     rw [e4] at pm
     !qW (pm.trans (oN _).symm) so (lU _)
    subst e3
    have l1:H1 l=none:=(aX hp).free hl2
    !k l _ _ _ (s1.free l1) bD ((s1.trans (aX hp)).trans (aX hl2)) (bC.ints.mpr rfl) q3
   ·rw [if_neg hl] at ed; cases ed
  ·cases ed
end
section
variable {X:Cx}
##aLx {i j:Nat} {x y:Str} {a b:Expr} {t:AF} {px py pt:Pos} {kt k2 N8} {pos:Pos} (hc:X.calm=true) (hN:X.N.Nodup) (ha:zZ X [a,b] t) (hi:X.N[i]? = some x:=by rfl) (hj:X.N[j]? = some y:=by rfl) (hij:i≠j:=by decide)
  (hx:X.env.scope.names.lookup x=some .local:=by rfl) (hy:X.env.scope.names.lookup y=some .local:=by rfl)
  (hw:swappedStores [.Tuple [.Name x px,.Name y py] kt pt] (.Tuple [a,b] k2 N8) X.env=pure (some [x,y]):=by rfl)
  (hs:swapsWithSole [.Tuple [.Name x px,.Name y py] kt pt] (.Tuple [a,b] k2 N8) pos.line X.env=pure false:=by rfl) :
  tJ X (.Assign [.Tuple [.Name x px,.Name y py] kt pt] (.Tuple [a,b] k2 N8) pos) (ND i j t) :=
 j3 (aBs hc hN hi hj hij hx hy ha hw hs) fun B σ H aGP=>by
  &⟨H₀,S,w,ρ,G,E,hl,st,ht,ok⟩:=aGP
  ~wS ND at ht
  cases et:t (kD ρ) with
  | none=>rw [et] at ht; !ht.elim
  | some ds =>
   rw [et] at ht
   match ds,et,ht with
   | [d1,d2],et,ht =>
    @⟨_,kD ρ,fun es=>es=[d1,d2],st.UM,st.rd,⟨_,et,rfl⟩,fun vs H1 es s1 q1 e=>?_⟩
    subst e
    &⟨v1,r,rfl,q2,q3⟩:=q1.bV
    &⟨v2,r2,rfl,q4,q5⟩:=q3.bV
    simp only [bC] at q5
    subst q5
    @⟨v1,v2,rfl,?_⟩
    have st1:=(st.same s1).nF (by rw [hl]; !iO hi) q2
    have m:∀ a,SO S w ρ a->SO S w (ρ.set i (.ro d1)) a:=SO.mono fun k e he=>by
     rcases get_set he with ⟨_,z,_⟩ | z
     ·cases z
     ·!⟨e,z.2⟩
    have st2:=st1.nF (i:=j) (by rw [List.length_set,hl]; !iO hj) (Dn.fits (.mono m) _ _ q4)
    !ok.nx w _ H1 _ (by rw [List.length_set,List.length_set]; !hl) st2 ht
   | [],et,ht=>!ht.elim
   | [_],et,ht=>!ht.elim
   | _::_::_::_,et,ht=>!ht.elim
end
section
variable {prog:Program} {w:World} {A:Around} {E:Value->Shared->Prop} {s:Shared}
end
section
variable {X:Cx}
end
section
variable {X:Cx}
end
end L6
end
section
namespace L7
open PySem PySem.Spec PyProof.Rows L2 L3 L4 LL
def kI (ns:List Int):List Key:=ns.map Sum.inl
##aGQ (ns:List Int):(kI ns).map kV=ns.map V.int:=by
 ~kI
 rw [List.map_map]
 rfl
##V9:∀ {a b:List Int},kI a=kI b->a=b
 | [],[],_=>rfl
 | [],_::_,h=>by cases h
 | _::_,[],h=>by cases h
 | x::a,y::b,h=>by
  ~kI at h
  rw [List.map_cons,List.map_cons] at h
  injection h with h1 h2
  injection h1 with h1
  rw [h1,V9 h2]
section
variable (rd:List Int->List (List Int))
def Memo (n:Nat) (kvs:List (List Key×V)):Prop:=∀ k v,iB kvs k=some v -> ∃ ns:List Int,k=kI ns/\v=.int (Wf rd (n - ns.length) ns)
##Memo.put {rd:List Int->List (List Int)} {n:Nat} {kvs:List (List Key×V)} (h:Memo rd n kvs) (a:List Int):Memo rd n (putK kvs (kI a) (.int (Wf rd (n - a.length) a))):=fun k v e=>by
 rw [UE] at e
 split at e
 ·rename_i z
  cases e
  !⟨a,z,rfl⟩
 ·!h k v e
##Memo.at {rd:List Int->List (List Int)} {n:Nat} {kvs:List (List Key×V)} (h:Memo rd n kvs) {a:List Int} {v:V} (e:iB kvs (kI a)=some v):v=.int (Wf rd (n - a.length) a):=by
 &⟨ns,e1,e2⟩:=h _ _ e
 rw [V9 e1]
 !e2
def But (p:Addr) (H H':Hp):Prop:=∀ b o,b≠p->H b=some o->H' b=some o
##But.trans {p:Addr} {H H1 H2:Hp} (a:But p H H1) (b:But p H1 H2):But p H H2:=fun c o n h=>b c o n (a c o n h)
##But.upd {p:Addr} {H:Hp} {o:HO}:But p H (upd H p o):=fun c q n h=>by rw [bQ n]; !h
abbrev All:Addr->Prop:=fun _=>True
end
def At (K:PySem.W.Frag) (x:List (List Int)) (a:List Int) (p:Addr) (σ:L2.St) (H:Hp):Prop :=
 ∃ vo va,σ[0]? = some (some vo)/\Dn K All H (aJ x) vo/\σ[1]? = some (some va)/\Dn K All H (tupI a) va/\σ[2]? = some (some (.ref p))
##At.key {K:PySem.W.Frag} {x:List (List Int)} {a:List Int} {p:Addr} {σ:L2.St} {H:Hp} (h:At K x a p σ H):∃ b,σ[1]? = some (some (.ref b))/\H b=some (.tup ((kI a).map kV)):=by
 &⟨vo,va,h1,h2,h3,h4,h5⟩:=h
 ~tupI at h4
 simp only [Dn] at h4
 &⟨b,ys,rfl,hb,db⟩:=h4
 rw [bC.ints.mp db] at hb
 !⟨b,h3,by rw [aGQ]; !hb⟩
##At.slot {K:PySem.W.Frag} {x:List (List Int)} {a:List Int} {p:Addr} {σ:L2.St} {H:Hp} (h:At K x a p σ H):σ[2]? = some (some (.ref p)):=by
 &⟨vo,va,h1,h2,h3,h4,h5⟩:=h
 !h5
section
variable {K:PySem.W.Frag} {rd:List Int->List (List Int)} {x:List (List Int)} {Ok:List Int->Prop} {a:List Int} {p:Addr} {σ:L2.St} {H:Hp} {kvs:List (List Key×V)}
structure Parts (K:PySem.W.Frag) (rd:List Int->List (List Int)) (x:List (List Int)) (a:List Int) (C1:TT) (T1:TE) (T3:TS):Prop where
 c1:∀ p σ H Q,At K x a p σ H->(∀ H',Same H H'->Q (decide (a.length=x.length)) H')->C1 σ H Q
 t1:∀ σ H (Q:VK),(∀ H',Same H H'->Q (.int 1) H')->T1 σ H Q
 t3:∀ p (D:Ends) σ H,σ.length=4->At K x a p σ H->a.length<x.length->(∀ (σ':L2.St) (H':Hp) (l:Addr) (ps:List Addr),Same H H'->At K x a p σ' H'->σ'[3]? = some (some (.ref l))->H' l=some (.lst (ps.map V.ref))->ps.length=(rd a).length ->
  (∀ (i:Nat) (q:Addr) (b:List Int),ps[i]? = some q->(rd a)[i]? = some b->H' q=some (.tup (b.map V.int)))->D.nx σ' H')->T3 D σ H
end
section
variable {K:PySem.W.Frag} {rd:List Int->List (List Int)} {x:List (List Int)} {Ok:List Int->Prop} {a:List Int} {p:Addr} {σ:L2.St} {H:Hp} {kvs:List (List Key×V)}
def wst (x:List (List Int)) (a:List Int) (p:Addr):aP:=[.ro (aJ x),.ro (tupI a),.ro (.exc "" p),.no]
##At.st (h:At K x a p σ H):ST K H All (fun _=>0) σ H (wst x a p) []:=by
 have no:∀ (i:Nat) (d:D),(wst x a p)[i]?≠some (Sv.ow d):=fun i d e=>by
  match i,e with
  | 0,e=>cases e
  | 1,e=>cases e
  | 2,e=>cases e
  | 3,e=>cases e
  | n+4,e=>simp [wst] at e
 &⟨vo,va,h1,h2,h3,h4,h5⟩:=h
 @⟨fun _ _=>trivial,Same.refl H,fun i d e=>absurd e (no i d),fun i j d e h=>absurd h (no i d),fun i d e=>?_,fun g hg=>by cases hg⟩
 have m:∀ b,All b->SO All (fun _=>0) (wst x a p) b:=fun b _=>⟨trivial,fun i d e=>absurd e (no i d)⟩
 match i,e with
 | 0,e=>cases e; !⟨vo,h1,Dn.fits (.mono m) _ _ h2⟩
 | 1,e=>cases e; !⟨va,h3,Dn.fits (.mono m) _ _ h4⟩
 | 2,e=>cases e; !⟨_,h5,by simp only [Dn]⟩
 | 3,e=>cases e
 | n+4,e=>simp [wst] at e
end
end L7
end
section
namespace L7
open PySem PySem.Spec PyProof.Rows
section
variable {prog:Program} {w:World} {A:Around} {E:Value->Shared->Prop} {s:Shared} {d it:Addr} {o:Obj} {es:Array DictEntry} {ep i:Nat}
##P5 {Q:Value->Shared->Prop} (hs:(d == sysModules)=false) (ho:s.heap.get? d=some o) (hx:o.ExactDict) (hd:o.data=.dict es ep)
  (h:Q (.ref s.heap.objs.size) { s with heap:=s.heap.push { cls:=.type "dict_keyiterator",data:=.fields #[.ref d,.int 0 0,.int es.size 0,.int ep 0] } }):wpAny (model prog w) A (pyIter (.ref d)) Q E s:=by
 have tD:s.TypeIs (.ref d) "dict" := ⟨o,ho,hx.1⟩
 @wpAny_pyIter_slot tD F.slot_dict_iter (wpAny_call_entry F.slot_dict_iter tD F.entry_dict_iter ?_ (F.args_dict_iter_1 _))
 (~Builtin.«dict.__iter__»; wp_walk)
 rw [hx.1,if_neg §]
 wp_walk
 rw [hd]
 @wpAny_pure ?_
 wp_walk
 rw [hd]
 @wpAny_pure ?_
 wp_walk
 !⟨.ref s.heap.objs.size,rfl, "dict_keyiterator",_,⟨_,Heap.get?_push_size _ rfl,rfl⟩,F.slot_dict_keyiterator_next.lookup,h⟩
##P6 {Q:Option Value->Shared->Prop} (hi:s.heap.IsKeyIter it d i es.size ep) (ho:s.heap.get? d=some o) (hd:o.data=.dict es ep) (hl:i<es.size)
  (h:∀ h',h'.IsKeyIter it d (i+1) es.size ep->Heap.SameBut it s.heap h'->Q (some es[i].key) { s with heap:=h' }):wpAny (model prog w) A (pyNext (.ref it)) Q E s:=by
 have tI:=hi.typeIs
 &⟨oi,hoi,hci,hdi⟩:=id hi
 ~pyNext
 @wpAny_bind (wpAny_attempt (wpAny_callSpecial?_slot (name:=Str.ofString "__next__") tI F.slot_dict_keyiterator_next (wpAny_call_entry F.slot_dict_keyiterator_next tI F.entry_dict_keyiterator_next ?_ (F.args_dict_keyiterator_next_1 _))))
 ~Builtin.«dict_keyiterator.__next__»
 wp_walk
 rw [hdi,show ((Manifest.find? "dict_keyiterator").elim "dict_keyiterator" fun x=>x.tpName) = "dict_keyiterator" by rw [find?_eq_fast]; kernel_rfl,if_neg §]
 wp_walk
 rw [hd]
 @wpAny_pure ?_
 rw [if_neg (by simp)]
 wp_walk
 rw [hd]
 @wpAny_pure ?_
 rw [if_neg (by simp)]
 @wpAny_pure ?_
 dsimp only
 rw [if_neg °,Int.toNat_natCast,Array.getElem?_eq_getElem hl]
 dsimp only
 wp_walk
 rw [hdi]
 dsimp only
 simp only [show ((Manifest.find? "dict_keyiterator").elim "dict_keyiterator" fun x=>x.tpName) = "dict_keyiterator" by rw [find?_eq_fast]; kernel_rfl,show Builtin.Dict_items.ownsTuple "dict_keyiterator" = false from by decide,Bool.false_eq_true,if_false]
 generalize hb:List.any _ _=bw
 have eb:bw=false:=by rw [<- hb]; decide
 subst eb
 rw [if_pos (by simp),if_neg §]
 have g1:=Heap.get?_update_self (Obj.mapFields fun x=>x.setIfInBounds (0+1) (rawInt ((i:Int)+1))) hoi (Obj.isFreed_of_fields (Obj.data_mapFields hdi _))
 have hi1:(s.heap.update it (Obj.mapFields fun x=>x.setIfInBounds (0+1) (rawInt ((i:Int)+1)))).IsKeyIter it d (i+1) es.size ep:=⟨_,g1,(Obj.cls_mapFields ..).trans hci,by rw [Obj.data_mapFields hdi]; simp [rawInt]⟩
 have fin:=h _ hi1 (Heap.SameBut.update ..)
 @wpAny_update hoi ?_
 have t1:Shared.TypeIs { s with heap:=s.heap.update it (Obj.mapFields fun x=>x.setIfInBounds (0+1) (rawInt ((i:Int)+1))) } (.ref it) "dict_keyiterator" := hi1.typeIs
 @wpAny_bind (wpAny_holding (wpAny_bind (wpAny_isOneOf_keyiter t1 ?_)))
 rw [if_pos §]
 !wpAny_pure (wpAny_pure ⟨_,rfl,wpAny_pure fin⟩)
##WB {Q:Option Value->Shared->Prop} (hh:A.handled=none) (hi:s.heap.IsKeyIter it d i es.size ep) (ho:s.heap.get? d=some o) (hd:o.data=.dict es ep) (hl:es.size<=i)
  (h:∀ h',Heap.ExtBut it s.heap h'->Q none { s with heap:=h' }):wpAny (model prog w) A (pyNext (.ref it)) Q E s:=by
 have tI:=hi.typeIs
 &⟨oi,hoi,hci,hdi⟩:=id hi
 ~pyNext
 @wpAny_bind (wpAny_attempt (wpAny_callSpecial?_slot (name:=Str.ofString "__next__") tI F.slot_dict_keyiterator_next (wpAny_call_entry F.slot_dict_keyiterator_next tI F.entry_dict_keyiterator_next ?_ (F.args_dict_keyiterator_next_1 _))))
 ~Builtin.«dict_keyiterator.__next__»
 wp_walk
 rw [hdi,show ((Manifest.find? "dict_keyiterator").elim "dict_keyiterator" fun x=>x.tpName) = "dict_keyiterator" by rw [find?_eq_fast]; kernel_rfl,if_neg §]
 wp_walk
 rw [hd]
 @wpAny_pure ?_
 rw [if_neg (by simp)]
 wp_walk
 rw [hd]
 @wpAny_pure ?_
 rw [if_neg (by simp)]
 @wpAny_pure ?_
 dsimp only
 rw [if_neg °,Int.toNat_natCast,Array.getElem?_eq_none hl]
 dsimp only
 wp_walk
 rw [hdi]
 dsimp only
 simp only [show ((Manifest.find? "dict_keyiterator").elim "dict_keyiterator" fun x=>x.tpName) = "dict_keyiterator" by rw [find?_eq_fast]; kernel_rfl,show Builtin.Dict_items.ownsTuple "dict_keyiterator" = false from by decide,Bool.false_eq_true,if_false]
 rw [if_pos (by simp)]
 wp_walk
 have hA:A.in1.handled=none:=hh
 ~raiseNew
 apply wpAny_bind
 apply wpAny_handled
 rw [hA]
 @wpAny_bind (wpAny_pure (wpAny_throw (wpAny_bind ?_)))
 @wpAny_isInstance (b:=true) (T := "StopIteration") ?_ isSubtype_stop ?_
 ·!⟨_,Heap.get?_push_size _ rfl,rfl⟩
 apply wpAny_pure
 apply h
 !((Heap.SameBut.update ..).extBut.push _).push _
end
end L7
end
section
namespace L8
open PySem PySem.Spec PyProof.Rows L2
def gJ (kvs:List (KX×V×V)) (k:KX):Option V:=(kvs.find? fun p=>decide (p.1=k)).map (·.2.2)
def fO (kvs:List (KX×V×V)) (k:KX) (y v:V):List (KX×V×V):=if kvs.any (fun p=>decide (p.1=k))=true then kvs.map (fun p=>if p.1=k then (p.1,p.2.1,v) else p) else kvs++[(k,y,v)]
def EN (H:Hp):KX->V->Prop
 | .inl k,y=>y=kV k
 | .inr ks,y=>∃ b,y=.ref b/\oF H ks b
def oQ (kvs:List (KX×V×V)) (k:KX):Prop:=∀ p∈kvs,p.1.isLeft=k.isLeft
##G0 (kvs:List (KX×V×V)) (k:KX) (y v:V):(fO kvs k y v).length<=kvs.length+1:=by
 ~fO
 split
 ·rw [List.length_map]; omega
 ·simp
abbrev PL:List (KX×V×V)->List (Key×Value)->Prop:=Paired fun p q=>p.1=.inl q.1/\p.2.1=kV q.1/\RelV p.2.2 q.2
abbrev PT (H:Hp):List (KX×V×V)->List (N1×Addr×Value)->Prop:=Paired fun p q=>p.1=.inr q.1/\p.2.1=.ref q.2.1/\oF H q.1 q.2.1/\RelV p.2.2 q.2.2
##PL.val {kvs:List (KX×V×V)} {vs:List (Key×Value)} (r:PL kvs vs) (k:Key):oD (gJ kvs (.inl k)) (valueAt vs k):=by
 induction r with
 | nil=>!True.intro
 | @cons p q ps qs h t ih =>
  by_cases e:q.1=k
  ·have e1:p.1=.inl k:=by rw [h.1,e]
   have a:gJ (p::ps) (.inl k)=some p.2.2:=by ~gJ; rw [List.find?_cons,decide_eq_true e1]; rfl
   have b:valueAt (q::qs) k=some q.2:=by ~valueAt; rw [List.find?_cons]; simp [e]
   rw [a,b]
   !h.2.2
  ·have e1:¬ p.1=.inl k:=fun z=>e (by rw [h.1] at z; !Sum.inl.inj z)
   have a:gJ (p::ps) (.inl k)=gJ ps (.inl k):=by ~gJ; rw [List.find?_cons,decide_eq_false e1]
   have b:valueAt (q::qs) k=valueAt qs k:=by ~valueAt; rw [List.find?_cons]; simp [e]
   rw [a,b]
   !ih
##PT.val {H:Hp} {kvs:List (KX×V×V)} {xs:List (N1×Addr×Value)} (r:PT H kvs xs) (k:N1):oD (gJ kvs (.inr k)) ((atKey xs k).map (·.2)):=by
 induction r with
 | nil=>!True.intro
 | @cons p q ps qs h t ih =>
  by_cases e:q.1=k
  ·have e1:p.1=.inr k:=by rw [h.1,e]
   have a:gJ (p::ps) (.inr k)=some p.2.2:=by ~gJ; rw [List.find?_cons,decide_eq_true e1]; rfl
   have b:atKey (q::qs) k=some q.2:=by ~atKey; rw [List.find?_cons]; simp [e]
   rw [a,b]
   !h.2.2.2
  ·have e1:¬ p.1=.inr k:=fun z=>e (by rw [h.1] at z; !Sum.inr.inj z)
   have a:gJ (p::ps) (.inr k)=gJ ps (.inr k):=by ~gJ; rw [List.find?_cons,decide_eq_false e1]
   have b:atKey (q::qs) k=atKey qs k:=by ~atKey; rw [List.find?_cons]; simp [e]
   rw [a,b]
   !ih
##WC (kvs:List (KX×V×V)) (k:KX):kvs.any (fun p=>decide (p.1=k))=(gJ kvs k).isSome:=by
 ~gJ
 rw [Option.isSome_map]
 induction kvs with
 | nil=>rfl
 | cons p ps ih =>
  rw [List.any_cons,List.find?_cons,ih]
  cases decide (p.1=k)<;>rfl
##PL.put {kvs:List (KX×V×V)} {vs:List (Key×Value)} (r:PL kvs vs) (k:Key) {v:V} {u:Value} (rv:RelV v u):PL (fO kvs (.inl k) (kV k) v) (stored vs k u):=by
 have e:kvs.any (fun p=>decide (p.1=.inl k))=vs.any (fun kv=>kv.1=k):=by
  induction r with
  | nil=>rfl
  | @cons p q ps qs h t ih =>
   rw [List.any_cons,List.any_cons,ih,h.1]
   congr 1
   !decide_eq_decide.2 ⟨fun z=>Sum.inl.inj z,fun z=>by rw [z]⟩
 ~fO stored
 rw [e]
 split
 ·rename_i hc
  clear hc e
  induction r with
  | nil=>!.nil
  | @cons p q ps qs h t ih =>
   rw [List.map_cons,List.map_cons]
   @.cons ?_ ih
   by_cases z:q.1=k
   ·rw [if_pos z,if_pos (by rw [h.1,z])]; !⟨h.1,h.2.1,rv⟩
   ·rw [if_neg z,if_neg (fun y=>z (by rw [h.1] at y; !Sum.inl.inj y))]; !h
 ·!Paired.snoc r ⟨rfl,rfl,rv⟩
##PT.put {H:Hp} {kvs:List (KX×V×V)} {xs:List (N1×Addr×Value)} (r:PT H kvs xs) (k:N1) {b:Addr} {v:V} {u:Value} (hb:oF H k b) (rv:RelV v u):PT H (fO kvs (.inr k) (.ref b) v) (storedH xs k b u):=by
 have e:kvs.any (fun p=>decide (p.1=.inr k))=(atKey xs k).isSome:=by
  rw [WC]
  have:=(PT.val r k).pJ
  rw [Option.isSome_map] at this
  !this
 ~fO storedH
 rw [e]
 split
 ·rename_i hc
  clear hc e
  induction r with
  | nil=>!.nil
  | @cons p q ps qs h t ih =>
   rw [List.map_cons,List.map_cons]
   @.cons ?_ ih
   ~putAt
   by_cases z:q.1=k
   ·rw [if_pos z,if_pos (by rw [h.1,z])]; !⟨h.1,h.2.1,h.2.2.1,rv⟩
   ·rw [if_neg z,if_neg (fun y=>z (by rw [h.1] at y; !Sum.inr.inj y))]; !h
 ·!Paired.snoc r ⟨rfl,rfl,hb,rv⟩
section
variable {P:Program} {w:World} {H:Hp} {h:Heap} {a:Addr} {o:Obj} {kvs:List (KX×V×V)}
##nI (ok:pU P w H h) {ks:N1} {b:Addr} (n:oF H ks b):(iG P w).is h ks b:=by
 &⟨vs,e,r⟩:=n
 &⟨_,its,rv,q,h1,h2,m,h3⟩:=(show eA P w H h b (.tup vs) from ok b _ e)
 have go:∀ {ks:N1} {vs:List V} {us:List Value},Paired (xK H) ks vs->Vals vs us->iF (bB P w) h ks us:=by
  intro ks vs us r
  induction r generalizing us with
  | nil=>intro rv; cases rv; !.nil
  | @cons k v ks vs i _ ih =>
   intro rv
   cases rv with
   | @cons _ u _ us ru rt =>
    @.cons ?_ (ih rt)
    cases k with
    | inl k =>
     have i:v=kV k:=i
     subst i
     !p6 ru
    | inr k =>
     &⟨c,rfl,hc⟩:=i
     have ru:u=.ref c:=ru
     !⟨c,ru,DU ok hc⟩
 !⟨q,its.toArray,m,h1,h2,h3,¥go r rv⟩
##oR (x:zS P w H o kvs) (ho:h.get? a=some o) (hp:∀ p∈kvs,p.1.isLeft=true):∃ vs,PL kvs vs/\h.DictOf (bB P w) a vs:=by
 &⟨ex,es,ep,ed,hx⟩:=x
 rcases hx with ⟨vs,r,h1,h2,h3⟩ | ⟨xs,r,h1,h2⟩
 ·!⟨vs,r,o,es,ep,ho,ex,ed,h1,h2,h3⟩
 ·cases r with
  | nil =>
   have e0:es.toList=[]:=h1
   have e1:es=#[]:=¥e0
   subst e1
   !⟨[],.nil,o,#[],ep,ho,ex,ed,(fun _ he=>by simp at he),.nil,List.nodup_nil⟩
  | @cons p q ps qs hq t =>
   have:=hp p List.mem_cons_self
   rw [hq.1] at this
   cases this
##sV (ok:pU P w H h) (x:zS P w H o kvs) (ho:h.get? a=some o) (hp:∀ p∈kvs,p.1.isLeft=false):∃ xs,PT H kvs xs/\h.DictOfH (iG P w) a xs:=by
 &⟨ex,es,ep,ed,hx⟩:=x
 rcases hx with ⟨vs,r,h1,h2,h3⟩ | ⟨xs,r,h1,h2⟩
 ·cases r with
  | nil =>
   have e0:es.toList=[]:=List.eq_nil_of_length_eq_zero (by rw [h2.length]; rfl)
   !⟨[],.nil,o,es,ep,ho,ex,ed,e0,(fun _ he=>by simp at he),List.nodup_nil⟩
  | @cons p q ps qs hq t =>
   have:=hp p List.mem_cons_self
   rw [hq.1] at this
   cases this
 ·@⟨xs,r,o,es,ep,ho,ex,ed,h1,?_,h2⟩
  have go:∀ {kvs:List (KX×V×V)} {xs:List (N1×Addr×Value)},PT H kvs xs -> ∀ x∈xs,(iG P w).is h x.1 x.2.1:=by
   intro kvs xs r
   induction r with
   | nil=>intro x hx; cases hx
   | cons hq _ ih =>
    intro x hx
    rcases List.mem_cons.1 hx with e | hx
    ·subst e; !nI ok hq.2.2.1
    ·!ih x hx
  !go r
end
section
variable {X:Cx} {pins:List (Addr×Obj)} {σ:L2.St} {H:Hp} {s:Shared} {a:Addr} {y v z:V} {u r:Value} {A:Around} {E:Value->Shared->Prop} {o:Obj} {kvs:List (KX×V×V)} {k:KX}
##qA (I:Inv X pins σ H s) (e:H a=some (.dX o kvs)):kvs.length<=sizeLine/\(a == sysModules)=false/\s.heap.get? a=some o/\zS X.prog X.w H o kvs:=I.hok a _ e
##aAA {k:Key} (kd:oQ kvs (.inl k)):∀ p∈kvs,p.1.isLeft=true:=kd
##aAB {k:N1} (kd:oQ kvs (.inr k)):∀ p∈kvs,p.1.isLeft=false:=kd
##P7 {Q:Value->Shared->Prop} (hu:A.units+2<cLine) (I:Inv X pins σ H s) (e:H a=some (.dX o kvs)) (hk:EN H k y) (kd:oQ kvs k) (hv:gJ kvs k=some v) (ry:RelV y u) (h:∀ w' s',Inv X pins σ H s'->RelV v w'->Q w' s') :
  wpAny (model X.prog X.w) A (getItem (.ref a) u) Q E s:=by
 &⟨z,hs,ho,hx⟩:=qA I e
 cases k with
 | inl k =>
  have hk:y=kV k:=hk
  subst hk
  &⟨vs,rel,dd⟩:=oR hx ho (aAA kd)
  &⟨w',hw,w8⟩:=oD.some_of (v:=v) (o:=valueAt vs k) (by rw [<- hv]; !PL.val rel k)
  !wpAny_getItem_of (p6 ry) dd.mapOf hw (h w' _ (I.tok _) w8)
 | inr k =>
  &⟨b,rfl,hb⟩:=hk
  obtain rfl:u=Value.ref b:=ry
  &⟨xs,rel,dd⟩:=sV I.hok hx ho (aAB kd)
  &⟨w',hw,w8⟩:=oD.some_of (v:=v) (o:=(atKey xs k).map (·.2)) (by rw [<- hv]; !PT.val rel k)
  &⟨p,hp,hp2⟩:=Option.map_eq_some_iff.mp hw
  @wpAny_getItem_heap (nest_room hu) (nI I.hok hb) dd hp ?_
  rw [hp2]
  !h w' _ (I.tok _) w8
##aGS {Q:Value->Shared->Prop} (neg:Bool) (hu:A.units+2<cLine) (I:Inv X pins σ H s) (e:H a=some (.dX o kvs)) (hk:EN H k y) (kd:oQ kvs k) (ry:RelV y u) (h:∀ s',Inv X pins σ H s'->Q (.bool (if neg then !(gJ kvs k).isSome else (gJ kvs k).isSome)) s') :
  wpAny (model X.prog X.w) A (compareOp (if neg then .NotIn else .In) u (.ref a)) Q E s:=by
 &⟨z,hs,ho,hx⟩:=qA I e
 cases k with
 | inl k =>
  have hk:y=kV k:=hk
  subst hk
  &⟨vs,rel,dd⟩:=oR hx ho (aAA kd)
  have ev:(gJ kvs (.inl k)).isSome=(valueAt vs k).isSome:=(PL.val rel k).pJ
  rw [ev] at h
  cases neg with
  | false=>!wpAny_in_of (p6 ry) hs dd.mapOf (h _ (I.tok _))
  | true=>!wpAny_notIn_of (p6 ry) hs dd.mapOf (h _ (I.tok _))
 | inr k =>
  &⟨b,rfl,hb⟩:=hk
  obtain rfl:u=Value.ref b:=ry
  &⟨xs,rel,dd⟩:=sV I.hok hx ho (aAB kd)
  have ev:=(PT.val rel k).pJ
  rw [Option.isSome_map] at ev
  rw [ev] at h
  cases neg with
  | false=>!wpAny_in_heap (nest_room hu) (nI I.hok hb) hs dd (h _ (I.tok _))
  | true=>!wpAny_notIn_heap (nest_room hu) (nI I.hok hb) hs dd (h _ (I.tok _))
##yI (I:Inv X pins σ H s) (e:H a=some (.dX o kvs)):s.TypeIs (.ref a) "dict" := by
 &⟨z,hs,ho,hx⟩:=qA I e
 !⟨o,ho,hx.1.1⟩
##aDJ {Q:Value->Shared->Prop} (hu:A.units+2<cLine) (I:Inv X pins σ H s) (e:H a=some (.dX o kvs)) (hk:EN H k y) (kd:oQ kvs k) (ry:RelV y u) (rz:RelV z r) (h:∀ w' s',Inv X pins σ H s'->RelV ((gJ kvs k).getD z) w'->Q w' s') :
  wpAny (model X.prog X.w) A (call (.builtin "dict.get") [.ref a,u,r]) Q E s:=by
 &⟨_,hs,ho,hx⟩:=qA I e
 have tI:=yI I e
 cases k with
 | inl k =>
  have hk:y=kV k:=hk
  subst hk
  &⟨vs,rel,dd⟩:=oR hx ho (aAA kd)
  !call_meetsIn F.slot_dict_get tI F.entry_dict_get (F.args_dict_get_3 _ _ _) (meets_dict_get_default (bB X.prog X.w) a (p6 ry) hs r) ⟨_,dd.mapOf,h _ _ (I.tok _) ((PL.val rel k).getD rz)⟩
 | inr k =>
  &⟨b,rfl,hb⟩:=hk
  obtain rfl:u=Value.ref b:=ry
  &⟨xs,rel,dd⟩:=sV I.hok hx ho (aAB kd)
  !call_meetsIn F.slot_dict_get tI F.entry_dict_get (F.args_dict_get_3 _ _ _) (meetsH_dict_get_default (iG X.prog X.w) a b hs r) ⟨nest_room hu,k,xs,nI I.hok hb,dd,h _ _ (I.tok _) ((PT.val rel k).getD rz)⟩
##G2 {P:Program} {w:World} {h':Heap} {H':Hp} {kvs:List (KX×V×V)} {vs:List (Key×Value)} (rel:PL kvs vs) (dd:h'.DictOf (bB P w) a vs):∃ o',h'.get? a=some o'/\zS P w H' o' kvs:=by
 &⟨o',es,ep,h1,h2,h3,h4,h5,h6⟩:=dd
 !⟨o',h1,h2,es,ep,h3,.inl ⟨vs,rel,h4,h5,h6⟩⟩
##M6 {P:Program} {w:World} {h':Heap} {H':Hp} {kvs:List (KX×V×V)} {xs:List (N1×Addr×Value)} (rel:PT H' kvs xs) (dd:h'.DictOfH (iG P w) a xs):∃ o',h'.get? a=some o'/\zS P w H' o' kvs:=by
 &⟨o',es,ep,h1,h2,h3,h4,_,h6⟩:=dd
 !⟨o',h1,h2,es,ep,h3,.inr ⟨xs,rel,h4,h6⟩⟩
##M7 {H:Hp} {a:Addr} {o:Obj} {kvs:List (KX×V×V)} {u:HO} (e:H a=some (.dX o kvs)):∀ b ys,H b=some (.tup ys)->upd H a u b=some (.tup ys):=fun b ys eb=>by
 rw [bQ (aA2 eb e (fun z=>nomatch z))]
 !eb
##P8 {Q:Unit->Shared->Prop} (hu:A.units+2<cLine) (I:Inv X pins σ H s) (e:H a=some (.dX o kvs)) (hk:EN H k y) (kd:oQ kvs k) (hl:kvs.length<sizeLine) (ry:RelV y u) (rv:RelV v r) (h:∀ o' s',Inv X pins σ (upd H a (.dX o' (fO kvs k y v))) s'->Q () s') :
  wpAny (model X.prog X.w) A (setItem (.ref a) u r) Q E s:=by
 &⟨z,hs,ho,hx⟩:=qA I e
 have hz:(fO kvs k y v).length<=sizeLine:=by have:=G0 kvs k y v; omega
 have mu:Mut (H a):=by rw [e]; !True.intro
 cases k with
 | inl k =>
  have hk:y=kV k:=hk
  subst hk
  &⟨vs,rel,dd⟩:=oR hx ho (aAA kd)
  have hv:vs.length<=sizeLine:=by rw [<- Paired.length rel]; !z
  @wpAny_setItem_pairs (hsz:=hv) (p6 ry) dd fun h' QZ sb=>?_
  &⟨o',g1,g2⟩:=G2 (H':=upd H a (.dX o (fO kvs (.inl k) (kV k) v))) (PL.put rel k rv) QZ
  !h o' _ (pK I mu sb ⟨o',g1⟩ ⟨hz,hs,g1,g2.stay fun b ys eb=>by
   by_cases hb:b=a
   ·subst hb; rw [bD] at eb; cases eb
   ·rw [bQ hb] at eb ⊢; !eb⟩)
 | inr k =>
  &⟨b,rfl,hb⟩:=hk
  obtain rfl:u=Value.ref b:=ry
  &⟨xs,rel,dd⟩:=sV I.hok hx ho (aAB kd)
  have hv:xs.length<=sizeLine:=by rw [<- Paired.length rel]; !z
  @wpAny_setItem_heap (hsz:=hv) (nest_room hu) (nI I.hok hb) dd fun h' QZ sb=>?_
  &⟨o',g1,g2⟩:=M6 (PT.put rel k hb rv) QZ
  !h o' _ (pK I mu sb ⟨o',g1⟩ ⟨hz,hs,g1,g2.stay (M7 e)⟩)
end
end L8
end
section
namespace L8
open PySem PySem.Spec PyProof.Rows L2 L7
def aGT (td ty:TE):TE:=fun σ H Q=>td σ H fun x H1=>ty σ H1 fun y H2=>∃ a o kvs k v,x=.ref a/\H2 a=some (.dX o kvs)/\EN H2 k y/\oQ kvs k/\gJ kvs k=some v/\Q v H2
def aAC (neg:Bool) (ty td:TE):TE:=fun σ H Q=>ty σ H fun y H1=>td σ H1 fun x H2=>∃ a o kvs k,x=.ref a/\H2 a=some (.dX o kvs)/\EN H2 k y/\oQ kvs k/\Q (.bl (if neg then !(gJ kvs k).isSome else (gJ kvs k).isSome)) H2
def aDK (td ty tz:TE):TE:=fun σ H Q=>td σ H fun x H1=>∃ a,x=.ref a/\(∃ o kvs,H1 a=some (.dX o kvs))/\ty σ H1 fun y H2=>tz σ H2 fun z H3=>∃ o kvs k,H3 a=some (.dX o kvs)/\EN H3 k y/\oQ kvs k/\Q ((gJ kvs k).getD z) H3
def aGU (td ty tv:TE):TS:=fun D σ H=>tv σ H fun v H1=>td σ H1 fun x H2=>ty σ H2 fun y H3=>∃ a o kvs k,x=.ref a/\H3 a=some (.dX o kvs)/\EN H3 k y/\oQ kvs k/\kvs.length<sizeLine /\ ∀ o',D.nx σ (upd H3 a (.dX o' (fO kvs k y v)))
def aGV:TE:=fun _ H Q=>∀ p o,H p=none->Q (.ref p) (upd H p (.dX o []))
def aGW (tk tv:TE):TE:=fun σ H Q=>∀ p o,H p=none->tk σ (upd H p (.dX o [])) fun y H1=>tv σ H1 fun z H2=>∃ k,EN H2 k y/\H2 p=some (.dX o []) /\ ∀ o',Q (.ref p) (upd H2 p (.dX o' [(k,y,z)]))
section
variable {X:Cx} {o i e f value:Expr} {pos pos':Pos} {td ty tv tz:TE}
##aAD (hu:X.A.units+2<cLine) (ho:PE X o td) (hi:PE X i ty) (hs:OO i):PE X (.Subscript o i pos) (aGT td ty):=by
 intro pins s σ H Q I h
 @MM F.slot_dict_getitem.lookup hs (dN (ho pins s σ H _ I h) fun u s1 ⟨x,H1,I1,rx,q1⟩=>?_)
 @dN (hi pins s1 σ H1 _ I1 q1) fun iv s2 aGX=>?_
 &⟨y,H2,I2,ry,a,ob,kvs,k,v,ex,e,hk,kd,hv,q2⟩:=aGX
 subst ex
 obtain rfl:u=Value.ref a:=rx
 !⟨yI I2 e,P7 hu I2 e hk kd hv ry fun w' s3 I3 r3=>⟨v,H2,I3,r3,q2⟩⟩
##aDL (hu:X.A.units+2<cLine) (hi:PE X i ty) (ho:PE X o td):PC X .In i o (aAC false ty td):=by
 intro pins s σ H Q I h
 @dN (hi pins s σ H _ I h) fun iv s1 aGY=>?_
 &⟨y,H1,I1,ry,q1⟩:=aGY
 @dN (ho pins s1 σ H1 _ I1 q1) fun u s2 aGZ=>?_
 &⟨x,H2,I2,rx,a,ob,kvs,k,ex,e,hk,kd,q2⟩:=aGZ
 subst ex
 obtain rfl:u=Value.ref a:=rx
 !aGS false hu I2 e hk kd ry fun s3 I3=>⟨.bl _,H2,I3,rfl,q2⟩
##P9 (hu:X.A.units+2<cLine) (hi:PE X i ty) (ho:PE X o td):PC X .NotIn i o (aAC true ty td):=by
 intro pins s σ H Q I h
 @dN (hi pins s σ H _ I h) fun iv s1 aG0=>?_
 &⟨y,H1,I1,ry,q1⟩:=aG0
 @dN (ho pins s1 σ H1 _ I1 q1) fun u s2 aG1=>?_
 &⟨x,H2,I2,rx,a,ob,kvs,k,ex,e,hk,kd,q2⟩:=aG1
 subst ex
 obtain rfl:u=Value.ref a:=rx
 !aGS true hu I2 e hk kd ry fun s3 I3=>⟨.bl _,H2,I3,rfl,q2⟩
##aAE (hu:X.A.units+2<cLine) (ho:PE X o td) (hi:PE X i ty) (hv:PE X value tv) (hs:swapsWith value (some (.Subscript o i pos')) pos.line X.env=pure false):PS X (.Assign [.Subscript o i pos'] value pos) (aGU td ty tv):=by
 intro pins s σ H D I h
 @wpAny_Assign_Subscript (dN (hv pins s σ H _ I h) fun r s1 ⟨v,H1,I1,rv,q1⟩=>?_) hs
 @dN (ho pins s1 σ H1 _ I1 q1) fun u s2 aG2=>?_
 &⟨x,H2,I2,rx,q2⟩:=aG2
 @dN (hi pins s2 σ H2 _ I2 q2) fun iv s3 aG3=>?_
 &⟨y,H3,I3,ry,a,ob,kvs,k,ex,e,hk,kd,hl,q3⟩:=aG3
 subst ex
 obtain rfl:u=Value.ref a:=rx
 !P8 hu I3 e hk kd hl ry rv fun o' s4 I4=>⟨σ,_,I4,q3 o'⟩
##WD {apos cpos:Pos} (hu:X.A.units+2<cLine) (ho:PE X o td) (he:PE X e ty) (hf:PE X f tz) (m:M2 X o "get" apos e f cpos):PE X (.Call (.Attribute o "get" apos) [e,f] [] cpos) (aDK td ty tz):=by
 intro pins s σ H Q I h
 @wpAny_Call_method m.base m.few m.line F.plainAttrs_dict F.slot_dict_get F.type_dict_get (dN (ho pins s σ H _ I h) fun u s1 ⟨x,H1,I1,rx,a,ex,⟨ob,kvs,e1⟩,q1⟩=>?_)
 subst ex
 obtain rfl:u=Value.ref a:=rx
 @⟨yI I1 e1,fun b q=>?_,?_⟩
 ·cases q
  &⟨_,_,h3,h4⟩:=qA I1 e1
  !⟨ob,h3,h4.1.2.1⟩
 rw [m.trees]
 @Calls.callWith_builtin rfl (Calls.evalArgs_plain (Calls.spliced_cons (dN (he pins s1 σ H1 _ I1 q1) fun iv s2 ⟨y,H2,I2,ry,q2⟩=>?_)))
 @Calls.spliced_cons (dN (hf pins s2 σ H2 _ I2 q2) fun fv s3 ⟨z,H3,I3,rz,o3,aRe,k,e3,hk,kd,q3⟩=>Calls.spliced_nil ?_)
 !aDJ hu I3 e3 hk kd ry rz fun w' s4 I4 r4=>⟨_,H3,I4,r4,q3⟩
##G3 {P:Program} {w:World} {H:Hp} (h:Heap) (hb:sysModules<h.objs.size):eA P w H (h.push { cls:=.type "dict",data:=.dict #[] }) h.objs.size (.dX { cls:=.type "dict",data:=.dict #[] } []) :=
 ⟨Nat.zero_le _,beq_eq_false_iff_ne.mpr (Ne.symm (Nat.ne_of_lt hb)),Heap.get?_push_size _ rfl,⟨rfl,rfl,rfl⟩,#[],0,rfl,.inl ⟨[],.nil,(fun _ he=>by simp at he),.nil,List.nodup_nil⟩⟩
##aAF:PE X (.Dict [] [] pos) aGV:=fun pins s σ H Q I h =>
 wpAny_Dict_empty ⟨.ref s.heap.objs.size,_,I.laid (t':=s.toks) (fun _ _ q=>Heap.get?_push_of_some _ q) (Nat.le_refl _) (G3 s.heap I.big),rfl,h _ _ (I.hok.fresh (Nat.le_refl _))⟩
##QA {pins:List (Addr×Obj)} {σ:L2.St} {H:Hp} {s:Shared} {a:Addr} {y v:V} {u r:Value} {A:Around} {E:Value->Shared->Prop} {ob:Obj} {k:KX} {Q:Unit->Shared->Prop} (hu:A.units+1<cLine) (I:Inv X pins σ H s) (e:H a=some (.dX ob [])) (hk:EN H k y) (ry:RelV y u) (rv:RelV v r) (h:∀ o' s',Inv X pins σ (upd H a (.dX o' [(k,y,v)])) s'->Q () s') :
  wpAny (model X.prog X.w) A (dictSet a u r) Q E s:=by
 &⟨z,hs,ho,hx⟩:=qA I e
 have mu:Mut (H a):=by rw [e]; !True.intro
 cases k with
 | inl k =>
  have hk:y=kV k:=hk
  subst hk
  &⟨vs,rel,dd⟩:=oR (a:=a) hx ho (fun p hp=>by cases hp)
  cases rel
  @wpAny_dictSet_pairs (hsz:=by decide) (p6 ry) dd fun h' QZ sb=>?_
  &⟨o',g1,g2⟩:=G2 (H':=upd H a (.dX ob [(.inl k,kV k,v)])) (PL.put .nil k rv) QZ
  !h o' _ (pK I mu sb ⟨o',g1⟩ ⟨by show 1<=sizeLine; decide,hs,g1,g2.stay fun b ys eb=>by
   by_cases hb:b=a
   ·subst hb; rw [bD] at eb; cases eb
   ·rw [bQ hb] at eb ⊢; !eb⟩)
 | inr k =>
  &⟨b,rfl,hb⟩:=hk
  obtain rfl:u=Value.ref b:=ry
  &⟨xs,rel,dd⟩:=sV (a:=a) I.hok hx ho (fun p hp=>by cases hp)
  cases rel
  @wpAny_dictSet_heap (hsz:=by decide) (show (iG X.prog X.w).room A from hu) (nI I.hok hb) dd fun h' QZ sb=>?_
  &⟨o',g1,g2⟩:=M6 (PT.put (H:=H) .nil k hb rv) QZ
  !h o' _ (pK I mu sb ⟨o',g1⟩ ⟨by show 1<=sizeLine; decide,hs,g1,g2.stay (M7 e)⟩)
def G4 (Q:VK) (p:Addr) (o:Obj):List (V×V)->Hp->Prop
 | [(y,z)],H2=>∃ k,EN H2 k y/\H2 p=some (.dX o []) /\ ∀ o',Q (.ref p) (upd H2 p (.dX o' [(k,y,z)]))
 | _,_=>False
##G5 {Q:VK} {p:Addr} {o:Obj} {ps:List (V×V)} {H2:Hp} (h:G4 Q p o ps H2):∃ y z k,ps=[(y,z)]/\EN H2 k y/\H2 p=some (.dX o []) /\ ∀ o',Q (.ref p) (upd H2 p (.dX o' [(k,y,z)])):=by
 match ps,h with
 | [(y,z)],⟨k,h1,h2,h3⟩=>!⟨y,z,k,rfl,h1,h2,h3⟩
##aAG (hu:X.A.units+1<cLine) (hk:PE X i ty) (hv:PE X value tv):PE X (.Dict [some i] [value] pos) (aGW ty tv):=by
 intro pins s σ H Q I q
 have hn:=I.hok.fresh (Nat.le_refl s.heap.objs.size)
 have I1:=I.laid (t':=s.toks) (fun _ _ z=>Heap.get?_push_of_some _ z) (Nat.le_refl _) (G3 (P:=X.prog) (w:=X.w) s.heap I.big)
 have np:pairTrees [some i] [value] X.env pos≠[]:=fun z=>by
  have:=pairTrees_length [some i] [value] X.env pos rfl rfl
  rw [z] at this
  cases this
 rw [arm_eval_Dict,zip_pairTrees [some i] [value] X.env pos rfl rfl,dictDisplay_pairs _ np (by rw [pairTrees_length _ _ _ _ rfl rfl]; show 1<17; decide)]
 apply wpAny_bind
 @wpAny_standAt (wpAny_bind ?_)
 ~subDict
 @wpAny_bind (wpAny_alloc (wpAny_bind (wpAny_holding ?_)))
 rw [if_pos (by rw [pairTrees_length _ _ _ _ rfl rfl]; show 1<=15; decide)]
 @wpAny_bind (dN (UL hk hv ZE pins _ σ _ (G4 Q s.heap.objs.size _) I1 (q _ _ hn)) fun ws s2 ⟨ps,H2,I2,rel,q2⟩=>?_)
 &⟨y,z,k,rfl,hk2,hp,q3⟩:=G5 q2
 obtain ⟨u,r,rfl,hy,hz⟩:∃ u r,ws=[(u,r)]/\RelV y u/\RelV z r:=by
  cases rel with
  | cons h1 t=>cases t; !⟨_,_,rfl,h1.1,h1.2⟩
 @wpAny_holding ?_
 rw [List.forIn_cons]
 @wpAny_bind (wpAny_bind (wpAny_bind (QA hu I2 hp hk2 hy hz fun o' s3 I3=>wpAny_pure ?_)))
 show wpAny _ _ (pure PUnit.unit) _ _ _
 !wpAny_pure (wpAny_pure (wpAny_pure (wpAny_pure ⟨.ref s.heap.objs.size,_,I3,rfl,q3 o'⟩)))
end
def Itx (a:Addr) (o:Obj) (vs:List V):It :=
 ⟨fun i H=>(∃ kvs,H a=some (.dX o kvs))/\i<vs.length,fun i H x H'=>H' = H/\vs[i]? = some x,fun i H=>(∃ kvs,H a=some (.dX o kvs))/\vs.length<=i⟩
##aDM {P:Program} {w:World} {K:PySem.W.Frag} {tg:Expr} {a it:Addr} {o:Obj} {vs:List V} {es:Array DictEntry} {ep:Nat} (hd:o.data=.dict es ep) (hs:Vals vs (es.toList.map (·.key))):Turn P w K tg (Itx a o vs) [it] it (fun i h=>h.IsKeyIter it a i es.size ep):=by
 have hz:es.size=vs.length:=by
  have:=hs.length
  simp at this
  omega
 @⟨List.mem_singleton.mpr rfl,fun i h st b hb=>?_,fun i h h' st k=>st.at fun ob e=>k it (List.mem_singleton.mpr rfl) ob e,?_,?_,fun A i s Q E st h=>wpAny_pyIter_keyiter st h⟩
 ·cases List.mem_singleton.1 hb
  &⟨ob,e,_,d⟩:=st
  !⟨ob,e,fun v z=>by rw [d] at z; cases z⟩
 ·intro X hP hw hK hc i pins s σ H E I hf st hg
  cases hP
  cases hw
  &⟨f0,f1,_,f3,f4,f5⟩:=hf it (List.mem_singleton.mpr rfl)
  &⟨⟨kvs,ha⟩,hi⟩:=hg
  &⟨_,_,ho,_⟩:=qA I ha
  have hl:i<es.size:=by rw [hz]; !hi
  @P6 st ho hd hl fun h' st' sb=>⟨_,rfl,?_⟩
  have I1:Inv X pins σ H { s with heap:=h' }:=I.turned (t':=s.toks) (fun b ob nb e=>(sb.2 b nb).trans e) f0 f1 f3 f4 f5
  &⟨u,hu,ru⟩:=hs.get (i:=i) (x:=vs[i]) (List.getElem?_eq_getElem hi)
  have hk:u=es[i].key:=by
   rw [List.getElem?_map,Array.getElem?_toList,Array.getElem?_eq_getElem hl] at hu
   !(Option.some.inj hu).symm
  subst hk
  &⟨ob,e,c,d⟩:=id st'
  !MB (s:={ s with heap:=h' }) e c d § ⟨vs[i],H,I1,ru,⟨rfl,List.getElem?_eq_getElem hi⟩,st',fun b hb=>(hf b hb).1⟩
 ·intro X hP hw hK hc i pins s σ H E I hf st hg
  cases hP
  cases hw
  &⟨f0,f1,_,f3,f4,f5⟩:=hf it (List.mem_singleton.mpr rfl)
  &⟨⟨kvs,ha⟩,hi⟩:=hg
  &⟨_,_,ho,_⟩:=qA I ha
  !WB (I.ok.hd hc) st ho hd (by rw [hz]; !hi) fun h' eb=>⟨rfl,I.turned (t':=s.toks) (fun b ob nb e=>eb b ob nb e) f0 f1 f3 f4 f5⟩
def aDN (tl:TE):TI:=fun σ H R=>tl σ H fun x H1=>∃ a o kvs,x=.ref a/\H1 a=some (.dX o kvs)/\((∀ p∈kvs,EN H1 p.1 p.2.1)->R (Itx a o (kvs.map (·.2.1))) H1)
##aG4 {P:Program} {w:World} {k:Key} {u:Value} (h:(bB P w).is k u=true):RelV (kV k) u:=by
 rcases cR h with ⟨i,t,rfl,rfl⟩ | ⟨i,t,rfl,rfl⟩
 ·!⟨t,rfl⟩
 ·!⟨t,rfl⟩
##WF {P:Program} {w:World} {H:Hp} {o:Obj} {kvs:List (KX×V×V)} (x:zS P w H o kvs):∃ es ep,o.data=.dict es ep/\Vals (kvs.map (·.2.1)) (es.toList.map (·.key)) /\ ∀ p∈kvs,EN H p.1 p.2.1:=by
 &⟨_,es,ep,ed,hx⟩:=x
 @⟨es,ep,ed,?_⟩
 rcases hx with ⟨vs,r,_,h2,_⟩ | ⟨xs,r,h1,_⟩
 ·have go:∀ {kvs:List (KX×V×V)} {vs:List (Key×Value)} {l:List DictEntry},PL kvs vs->Pairs (bB P w) l vs->Vals (kvs.map (·.2.1)) (l.map (·.key)) /\ ∀ p∈kvs,EN H p.1 p.2.1:=by
   intro kvs vs l r
   induction r generalizing l with
   | nil=>intro h2; cases h2; !⟨.nil,fun p hp=>by cases hp⟩
   | @cons p q ps qs hq t ih =>
    intro h2
    cases h2 with
    | cons k1 k2 k3 =>
     &⟨i1,i2⟩:=ih k3
     @⟨.cons ?_ i1,fun p' hp'=>?_⟩
     ·dsimp only
      rw [hq.2.1]
      !aG4 k1
     ·rcases List.mem_cons.1 hp' with e | hp'
      ·subst e; rw [hq.1,hq.2.1]; rfl
      ·!i2 p' hp'
  !go r h2
 ·have go:∀ {kvs:List (KX×V×V)} {xs:List (N1×Addr×Value)},PT H kvs xs->Vals (kvs.map (·.2.1)) ((xs.map (entryOfKey (iG P w))).map (·.key)) /\ ∀ p∈kvs,EN H p.1 p.2.1:=by
   intro kvs xs r
   induction r with
   | nil=>!⟨.nil,fun p hp=>by cases hp⟩
   | @cons p q ps qs hq t ih =>
    &⟨i1,i2⟩:=ih
    @⟨.cons ?_ i1,fun p' hp'=>?_⟩
    ·dsimp only; rw [hq.2.1]; rfl
    ·rcases List.mem_cons.1 hp' with e | hp'
     ·subst e; rw [hq.1,hq.2.1]; !⟨_,rfl,hq.2.2.1⟩
     ·!i2 p' hp'
  rw [h1]
  !go r
##WH {X:Cx} {tg l:Expr} {tl:TE} (hl:PE X l tl):PI X tg l (aDN tl):=by
 intro pins s σ H R I h
 @dN (hl pins s σ H _ I h) fun v s1 aG5=>?_
 &⟨x,H1,I1,r1,a,o,kvs,ex,ha,q⟩:=aG5
 subst ex
 obtain rfl:v=Value.ref a:=r1
 &⟨_,hs,ho,hx⟩:=qA I1 ha
 &⟨es,ep,ed,ks,hk⟩:=WF hx
 @P5 hs ho hx.1 ed ⟨s1.heap.objs.size,[s1.heap.objs.size],_,_,_,rfl,I1.kept (t':=s1.toks) fun b ob e=>Heap.get?_push_of_some _ e,aDM ed ks,⟨_,Heap.get?_push_size _ rfl,rfl,by simp⟩,fun b hb=>?_,q hk⟩
 rw [List.mem_singleton.1 hb]
 !I1.IV (Nat.le_refl _) (I1.hok.fresh (Nat.le_refl _))
end L8
end
section
namespace L8
open PySem PySem.Spec PyProof.Rows L2 L3 L4
section
variable {K:PySem.W.Frag} {S:Addr->Prop} {H:Hp}
##aAH {d:D} {v:V} {k:Key} (h:Dn K S H d v) (e:v0 d=some k):v=kV k:=by
 cases d<;>simp only [v0] at e<;>cases e<;>simp only [Dn] at h<;>!h
##G6:∀ {ds:List D} {xs:List V} {ks:List Key},bC K S H ds xs->AO ds=some ks->xs=ks.map kV
 | [],xs,ks,h,e=>by simp only [bC] at h; cases e; !h
 | d::ds,xs,ks,h,e=>by
  &⟨v,r,rfl,h1,h2⟩:=h.bV
  &⟨k,ek,e⟩:=bnd e
  &⟨ks',e2,rfl⟩:=tK e
  rw [aAH h1 ek,G6 h2 e2]
  rfl
##WJ {d:D} {v:V} {k:Sum Key (List Key)} (h:Dn K S H d v) (e:aAQ d=some k):xK H k v:=by
 cases d with
 | tup ds =>
  &⟨ks,e2,rfl⟩:=tK e
  simp only [Dn] at h
  &⟨a,xs,rfl,ha,dn⟩:=h
  rw [G6 dn e2] at ha
  !⟨a,rfl,ha⟩
 | int i=>cases e; simp only [Dn] at h; !h
 | str i=>cases e; simp only [Dn] at h; !h
 | _=>cases e
##B6:∀ {ds:List D} {xs:List V} {ks:N1},bC K S H ds xs->tM ds=some ks->Paired (xK H) ks xs
 | [],xs,ks,h,e=>by simp only [bC] at h; cases e; subst h; !.nil
 | d::ds,xs,ks,h,e=>by
  &⟨v,r,rfl,h1,h2⟩:=h.bV
  &⟨k,ek,e⟩:=bnd e
  &⟨ks',e2,rfl⟩:=tK e
  !.cons (WJ h1 ek) (B6 h2 e2)
##sW {d:D} {v:V} {k:KX} (h:Dn K S H d v) (e:nW d=some k):EN H k v:=by
 cases d with
 | tup ds =>
  &⟨ks,e2,rfl⟩:=tK e
  simp only [Dn] at h
  &⟨a,xs,rfl,ha,dn⟩:=h
  !⟨a,rfl,xs,ha,B6 dn e2⟩
 | int i=>cases e; simp only [Dn] at h; !h
 | str i=>cases e; simp only [Dn] at h; !h
 | _=>cases e
##WK (k:Key):Dn K S H (dK k) (kV k):=by cases k<;>simp only [dK,Dn]<;>rfl
##WL:∀ ks:List Key,bC K S H (ks.map dK) (ks.map kV)
 | []=>bC.nil
 | k::ks=>bC.cons (WK k) (WL ks)
##B7:∀ {ks:N1} {vs:List V},Paired (xK H) ks vs->bC K S H (ks.map RB) vs
 | _,_,.nil=>bC.nil
 | k::ks,v::vs,.cons h t=>by
  @bC.cons ?_ (B7 t)
  cases k with
  | inl k =>
   have h:v=kV k:=h
   subst h
   !WK k
  | inr k =>
   &⟨b,rfl,hb⟩:=h
   simp only [RB,Dn]
   !⟨b,_,rfl,hb,WL k⟩
##aDO {k:KX} {v:V} (h:EN H k v):Dn K S H (dKX k) v:=by
 cases k with
 | inl k =>
  have h:v=kV k:=h
  subst h
  !WK k
 | inr k =>
  &⟨b,rfl,vs,hb,r⟩:=h
  simp only [dKX,Dn]
  !⟨b,vs,rfl,hb,B7 r⟩
##uE {k:KX}:∀ {kvs:List (KX×V×V)} {ds:List D},bC K S H ds (kvs.map (·.2.2))->(∀ d,cP (kvs.map (·.1)) ds k=some d -> ∃ v,gJ kvs k=some v/\Dn K S H d v)/\(cP (kvs.map (·.1)) ds k=none->gJ kvs k=none)
 | [],ds,h=>⟨fun d e=>by simp [cP] at e,fun _=>rfl⟩
 | p::kvs,ds,h=>by
  cases ds with
  | nil=>!absurd h.len (by simp)
  | cons d0 ds =>
   &⟨v,r,e1,h1,h2⟩:=h.bV
   rw [List.map_cons] at e1
   cases e1
   have ih:=uE (k:=k) (kvs:=kvs) (ds:=ds) h2
   by_cases e:p.1=k
   ·have a:cP ((p::kvs).map (·.1)) (d0::ds) k=some d0:=by simp [cP,e]
    have b:gJ (p::kvs) k=some p.2.2:=by simp [gJ,e]
    rw [a,b]
    !⟨fun d ed=>by cases ed; !⟨_,rfl,h1⟩,fun z=>nomatch z⟩
   ·have a:cP ((p::kvs).map (·.1)) (d0::ds) k=cP (kvs.map (·.1)) ds k:=by simp [cP,e]
    have b:gJ (p::kvs) k=gJ kvs k:=by simp [gJ,e]
    rw [a,b]
    !ih
##EB {k:KX} {kvs:List (KX×V×V)} (h:kindB (kvs.map (·.1)) k=true):oQ kvs k:=fun p hp=>by
 ~kindB at h
 rw [List.all_eq_true] at h
 simpa using h p.1 (List.mem_map_of_mem hp)
##aG6 {k:KX} {y v:V} {d:D} (dv:Dn K S H d v):∀ {kvs:List (KX×V×V)} {ds:List D},bC K S H ds (kvs.map (·.2.2)) ->
  (L8.fO kvs k y v).map (·.1)=(L4.fO (kvs.map (·.1)) ds k d).1/\bC K S H (L4.fO (kvs.map (·.1)) ds k d).2 ((L8.fO kvs k y v).map (·.2.2)):=by
 intro kvs ds h
 have e:(kvs.map (·.1)).any (fun q=>decide (q=k))=kvs.any (fun p=>decide (p.1=k)):=by rw [List.any_map]; rfl
 ~L8.fO L4.fO
 rw [e]
 split
 ·@⟨?_,?_⟩
  ·simp only [List.map_map]
   @List.map_congr_left fun p _=>?_
   show (if p.1=k then (p.1,p.2.1,v) else p).1=p.1
   split<;>rfl
  ·dsimp only
   have go:∀ {kvs:List (KX×V×V)} {ds:List D},bC K S H ds (kvs.map (·.2.2))->bC K S H (((kvs.map (·.1)).zip ds).map fun p=>if p.1=k then d else p.2) ((kvs.map fun p=>if p.1=k then (p.1,p.2.1,v) else p).map (·.2.2)):=by
    intro kvs
    induction kvs with
    | nil=>intro ds h; cases ds with
     | nil=>!bC.nil
     | cons d0 ds=>!absurd h.len (by simp)
    | cons p kvs ih =>
     intro ds h
     cases ds with
     | nil=>!absurd h.len (by simp)
     | cons d0 ds =>
      &⟨u,r,e1,h1,h2⟩:=h.bV
      rw [List.map_cons] at e1
      cases e1
      @bC.cons ?_ (ih h2)
      by_cases z:p.1=k
      ·simpa [z] using dv
      ·simpa [z] using h1
   !go h
 ·@⟨by simp,?_⟩
  rw [List.map_append]
  !h.append (bC.one dv)
end
section
variable {X:Cx}
##aAI {o i:Expr} {pos:Pos} {fo fi:EF} (hu:X.A.units+2<cLine) (ho:bS X o fo) (hi:bS X i fi) (hs:OO i:=by intro _ _; rfl):bS X (.Subscript o i pos) (aC pS fo fi):=imp (aAD hu ho hi hs) fun σ H Q aG7=>by
 &⟨S,ρ,Q3,fc,sl,⟨d,e,q⟩,k⟩:=aG7
 &⟨x,ex,e⟩:=bnd e
 &⟨y,ey,e⟩:=bnd e
 @⟨S,ρ,fun d=>d=x,fc,sl,⟨x,ex,rfl⟩,fun v H1 d1 s1 EO e1=>?_⟩
 subst e1
 @⟨S,ρ,fun d=>d=y,bP fc s1,Sl.fits (.same s1) sl,⟨y,ey,rfl⟩,fun u H2 d2 s2 Q2 e2=>?_⟩
 subst e2
 have EO:=Dn.fits (.same s2) _ _ EO
 cases d1 with
 | dF q0 ks ds =>
  &⟨kk,ek,e⟩:=bnd e
  simp only [Dn] at EO
  &⟨a,o,kvs,rfl,ha,sa,⟨rfl,_⟩,da⟩:=EO
  by_cases hk:kindB (kvs.map (·.1)) kk=true
  ·rw [if_pos hk] at e
   &⟨v3,ev,dv⟩:=(uE da).1 d e
   !⟨a,o,kvs,kk,v3,rfl,ha,sW Q2 ek,EB hk,ev,k v3 H2 d (s1.trans s2) dv q⟩
  ·rw [if_neg hk] at e; cases e
 | _=>cases e
##WM {neg:Bool} {fo fi:EF} {σ:L2.St} {H:Hp} {Q:VK} (h:lift X.K (wE (aC (zM neg) fi fo)) σ H Q):aAC neg (lift X.K (wE fi)) (lift X.K (wE fo)) σ H Q:=by
 &⟨S,ρ,Q3,fc,sl,⟨d,e,q⟩,k⟩:=h
 &⟨x,ex,e⟩:=bnd e
 &⟨y,ey,e⟩:=bnd e
 @⟨S,ρ,fun d=>d=x,fc,sl,⟨x,ex,rfl⟩,fun v H1 d1 s1 EO e1=>?_⟩
 subst e1
 @⟨S,ρ,fun d=>d=y,bP fc s1,Sl.fits (.same s1) sl,⟨y,ey,rfl⟩,fun u H2 d2 s2 Q2 e2=>?_⟩
 subst e2
 have EO:=Dn.fits (.same s2) _ _ EO
 cases d2 with
 | dF q0 ks ds =>
  &⟨kk,ek,e⟩:=bnd (o:=nW d1) e
  simp only [Dn] at Q2
  &⟨a,o,kvs,rfl,ha,sa,⟨rfl,_⟩,da⟩:=Q2
  by_cases hk:kindB (kvs.map (·.1)) kk=true
  ·rw [if_pos hk] at e
   cases e
   have ev:(gJ kvs kk).isSome=(cP (kvs.map (·.1)) ds kk).isSome:=by
    cases hl:cP (kvs.map (·.1)) ds kk with
    | none=>rw [(uE da).2 hl]; rfl
    | some d3=>&⟨v3,e3,_⟩:=(uE da).1 d3 hl; rw [e3]; rfl
   @⟨a,o,kvs,kk,rfl,ha,sW EO ek,EB hk,?_⟩
   rw [ev]
   !k _ H2 _ (s1.trans s2) (by simp only [Dn]) q
  ·rw [if_neg hk] at e; cases e
 | _=>cases e
section
variable {o i:Expr} {pos:Pos} {fo fi:EF}
##B8 {neg:Bool} {σ:L2.St} {H:Hp} {Q:Bool->Hp->Prop} (h:liftT X.K (wT (tV (aC (zM neg) fi fo))) σ H Q):tB (aAC neg (lift X.K (wE fi)) (lift X.K (wE fo))) σ H Q:=by
 &⟨S,ρ,Q3,fc,sl,⟨b,e,q⟩,k⟩:=h
 &⟨d,e1,e2⟩:=bnd e
 have eb:d=.bl b:=by
  &⟨x,ex,e⟩:=bnd e1
  &⟨y,ey,e⟩:=bnd e
  cases y with
  | dF q0 ks ds =>
   &⟨kk,ek,e⟩:=bnd (o:=nW x) e
   by_cases hk:kindB ks kk=true
   ·rw [if_pos hk] at e
    cases e
    cases e2
    rfl
   ·rw [if_neg hk] at e; cases e
  | _=>cases e
 subst eb
 @WM ⟨S,ρ,fun d=>d=.bl b,fc,sl,⟨_,e1,rfl⟩,fun v H1 d s1 dn e3=>?_⟩
 subst e3
 simp only [Dn] at dn
 !⟨b,dn,k b H1 s1 q⟩
##aG8 (hu:X.A.units+2<cLine) (hi:bS X i fi) (ho:bS X o fo) (hm:behindInMarks .In o=false:=by with_unfolding_all rfl):vH X (.Compare i [.In] [o] pos) (tV (aC (zM false) fi fo)):=JH (TH (aDL hu hi ho) hm) fun _ _ _=>B8
##aDP (hu:X.A.units+2<cLine) (hi:bS X i fi) (ho:bS X o fo) (hm:behindInMarks .NotIn o=false:=by with_unfolding_all rfl):vH X (.Compare i [.NotIn] [o] pos) (tV (aC (zM true) fi fo)):=JH (TH (P9 hu hi ho) hm) fun _ _ _=>B8
end
##aG9 {o e f:Expr} {apos cpos:Pos} {fo fe ff:EF} (hu:X.A.units+2<cLine) (ho:bS X o fo) (he:bS X e fe) (hf:bS X f ff) (m:M2 X o "get" apos e f cpos):bS X (.Call (.Attribute o "get" apos) [e,f] [] cpos) (K3 fo fe ff):=imp (WD hu ho he hf m) fun σ H Q aGa=>by
 &⟨S,ρ,Q3,fc,sl,⟨d,e,q⟩,k⟩:=aGa
 &⟨x,ex,e⟩:=bnd e
 &⟨y,ey,e⟩:=bnd e
 &⟨z,ez,e⟩:=bnd e
 cases x with
 | dF q0 ks ds =>
  &⟨kk,ek,e'⟩:=bnd e
  clear e
  @⟨S,ρ,fun d=>d=.dF q0 ks ds,fc,sl,⟨_,ex,rfl⟩,fun v H1 d1 s1 EO e1=>?_⟩
  subst e1
  have aLz:=EO
  simp only [Dn] at EO
  &⟨a,o,kvs,rfl,ha,sa,_,da⟩:=EO
  @⟨a,rfl,⟨o,kvs,ha⟩,S,ρ,fun d=>d=y,bP fc s1,Sl.fits (.same s1) sl,⟨y,ey,rfl⟩,fun u H2 d2 s2 Q2 e2=>?_⟩
  subst e2
  @⟨S,ρ,fun d=>d=z,bP fc (s1.trans s2),Sl.fits (.same (s1.trans s2)) sl,⟨z,ez,rfl⟩,fun t H3 d3 s3 dn3 e3=>?_⟩
  subst e3
  have EO:=Dn.fits (.same (s2.trans s3)) _ _ aLz
  have Q2:=Dn.fits (.same s3) _ _ Q2
  simp only [Dn] at EO
  &⟨a',o,kvs,ea,ha,sa,⟨rfl,_⟩,da⟩:=EO
  cases ea
  by_cases hk:kindB (kvs.map (·.1)) kk=true
  ·rw [if_pos hk] at e'
   cases e'
   @⟨o,kvs,kk,ha,sW Q2 ek,EB hk,?_⟩
   cases hl:cP (kvs.map (·.1)) ds kk with
   | none =>
    rw [hl] at q
    rw [(uE da).2 hl]
    !k _ H3 _ ((s1.trans s2).trans s3) dn3 q
   | some d4 =>
    rw [hl] at q
    &⟨v4,e4,dv⟩:=(uE da).1 d4 hl
    rw [e4]
    !k _ H3 _ ((s1.trans s2).trans s3) dv q
  ·rw [if_neg hk] at e'; cases e'
 | _=>cases e
##aGb {K:PySem.W.Frag} {a:Addr} {o:Obj} {kvs:List (KX×V×V)} {ds:List D}:Wlk K (Itx a o (kvs.map (·.2.1))) ((kvs.map (·.1)).map dKX) ((.dF (fun _ u=>u=o) (kvs.map (·.1)) ds,.ref a)::kvs.map fun p=>(dKX p.1,p.2.1)) where
 go:=fun S H fc hg i d e=>by
  have h:=hg _ List.mem_cons_self
  simp only [Dn] at h
  &⟨b,o',kvs',eb,hb,sb,⟨_,eo⟩,dn⟩:=h
  cases eb
  have eo:o' = o:=eo
  subst eo
  rw [List.map_map,List.getElem?_map] at e
  &⟨p,ep,ed⟩:=Option.map_eq_some_iff.1 e
  have hi:i<kvs.length:=(List.getElem?_eq_some_iff.1 ep).1
  @⟨⟨⟨kvs',hb⟩,¥hi⟩,fun x H' y=>?_⟩
  &⟨e1,y⟩:=y
  subst e1
  rw [List.getElem?_map,ep] at y
  cases y
  cases ed
  !⟨Same.refl _,hg (dKX p.1,p.2.1) (List.mem_cons_of_mem _ (List.mem_map_of_mem (List.mem_of_getElem? ep)))⟩
 stop:=fun S H hg i hi=>by
  have h:=hg _ List.mem_cons_self
  simp only [Dn] at h
  &⟨b,o',kvs',eb,hb,sb,⟨_,eo⟩,dn⟩:=h
  cases eb
  have eo:o' = o:=eo
  subst eo
  !⟨⟨kvs',hb⟩,by simp at hi ⊢; omega⟩
##aDQ {tg l:Expr} {f:EF} (h:bS X l f):Z6 X tg l (HW f):=OU (WH h) fun σ H R aGc=>by
 &⟨S,ρ,Q3,fc,sl,⟨es,e,q⟩,k⟩:=aGc
 &⟨x,ex,e⟩:=bnd e
 @⟨S,ρ,fun d=>d=x,fc,sl,⟨x,ex,rfl⟩,fun v H1 d1 s1 EO e1=>?_⟩
 subst e1
 cases d1 with
 | dF q0 ks ds =>
  cases e
  simp only [Dn] at EO
  &⟨a,o,kvs,rfl,ha,sa,⟨rfl,_⟩,da⟩:=EO
  @⟨a,o,kvs,rfl,ha,fun hk=>k _ H1 _ _ s1 (fun g hg=>?_) (aGb (ds:=ds)) q⟩
  rcases List.mem_cons.1 hg with e | hg
  ·subst e
   simp only [Dn]
   !⟨a,o,kvs,rfl,ha,sa,⟨rfl,rfl⟩,da⟩
  ·&⟨p,hp,rfl⟩:=List.mem_map.1 hg
   !aDO (hk p hp)
 | _=>cases e
end
section
variable {X:Cx}
##aAx {i:Nat} {x:Str} {pos pos' p:Pos} (hN:X.N.Nodup) (hi:X.N[i]? = some x:=by rfl) (hx:Loc X.env.scope x:=by first | !.inl rfl | !.inr rfl) (hs:swapsWith (.Dict [] [] p) (some (.Name x pos')) pos.line X.env=pure false:=by rfl) (hf:X.fn x=true\/X.env.scope.names.lookup x=some .local:=by first | !.inl rfl | !.inr rfl) :
  tJ X (.Assign [.Name x pos'] (.Dict [] [] p) pos) (EX i):=j3 (oG hN hi hx aAF hs hf) fun B σ H ⟨H₀,S,w,ρ,G,E,hl,st,ht,ok⟩=>fun p o hp =>
 ok.nx _ _ _ _ (by rw [List.length_set]; !hl) (st.xO (d:=.dF vA [] []) (by rw [hl]; !iO hi) (aX hp) hp ⟨o,[],bD,⟨rfl,trivial⟩,bC.nil⟩) ht
##aDR {i:Nat} {x:Str} {k v:Expr} {fk fv:EF} {pos pos' p:Pos} (hu:X.A.units+1<cLine) (hN:X.N.Nodup) (hk:bS X k fk) (hv:bS X v fv) (hi:X.N[i]? = some x:=by rfl) (hx:Loc X.env.scope x:=by first | !.inl rfl | !.inr rfl) (hs:swapsWith (.Dict [some k] [v] p) (some (.Name x pos')) pos.line X.env=pure false:=by rfl) (hf:X.fn x=true\/X.env.scope.names.lookup x=some .local:=by first | !.inl rfl | !.inr rfl) :
  tJ X (.Assign [.Name x pos'] (.Dict [some k] [v] p) pos) (CN i fk fv):=j3 (oG hN hi hx (aAG hu hk hv) hs hf) fun B σ H ⟨H₀,S,w,ρ,G,E,hl,st,ht,ok⟩=>fun p o hp=>by
 ~wS CN at ht
 cases h:((fk (kD ρ)).bind fun kd=>(fv (kD ρ)).bind fun d=>(nW kd).map fun kk=>(kk,d)) with
 | none=>rw [h] at ht; !ht.elim
 | some q =>
  rw [h] at ht
  &⟨kd,ek,h⟩:=bnd h
  &⟨d,ed,h⟩:=bnd h
  &⟨kk,e2,rfl⟩:=tK h
  have s0:Same H (upd H p (.dX o [])):=aX hp
  have st0:=st.same s0
  -- p is not among what was there
  have fc0:∀ a,upd H p (.dX o []) a=none->(SO S w ρ a/\a≠p):=fun a ea=>⟨st0.UM a ea,fun z=>by rw [z,bD] at ea; cases ea⟩
  have F0:Fits X.K (SO S w ρ) (fun a=>SO S w ρ a/\a≠p) H (upd H p (.dX o [])):=(Fits.fresh hp).trans (.same s0)
  have sl0:Sl X.K (fun a=>SO S w ρ a/\a≠p) (upd H p (.dX o [])) (kD ρ) σ:=Sl.fits F0 st.rd
  @⟨_,kD ρ,fun y=>y=kd,fc0,sl0,⟨kd,ek,rfl⟩,fun y H1 y' s1 dy ey=>?_⟩
  subst ey
  @⟨_,kD ρ,fun y=>y=d,bP fc0 s1,Sl.fits (.same s1) sl0,⟨d,ed,rfl⟩,fun z H2 z' s2 dz ez=>?_⟩
  subst ez
  have dy:=Dn.fits (.same s2) _ _ dy
  have e3:H2 p=some (.dX o []):=s2 _ _ (s1 _ _ bD)
  @⟨kk,sW dy e2,e3,fun o'=>?_⟩
  have s3:Same H (upd H2 p (.dX o' [(kk,y,z)])):=fun b u hb=>by
   rw [bQ (bU hb hp)]
   !s2 _ _ (s1 _ _ (s0 _ _ hb))
  have F3:Fits X.K (fun a=>SO S w ρ a/\a≠p) (fun a=>SO S w ρ a/\a≠p) H2 (upd H2 p (.dX o' [(kk,y,z)])):=.upd (.inr (.inr ⟨_,_,e3⟩)) (fun h=>h.2 rfl)
  !ok.nx _ _ _ _ (by rw [List.length_set]; !hl) (st.xO (d:=.dF vA [kk] [z']) (by rw [hl]; !iO hi) s3 hp ⟨o',_,bD,⟨rfl,trivial⟩,bC.one (Dn.fits F3 _ _ dz)⟩) ht
##aAJ {o:Option Sv} {p:(Nat->Obj->Prop)×List vO×List D} (h:EW o=some p):o=some (.ow (.dF p.1 p.2.1 p.2.2)):=by
 ~EW at h
 split at h
 ·cases h; rfl
 ·cases h
##WN {i:Nat} {x:Str} {e k:Expr} {f:XF} {fk:EF} {pos pos' p:Pos} (hu:X.A.units+2<cLine) (he:MT X e f) (hk:bS X k fk)
  (hN:X.N[i]? = some x:=by rfl) (hv:EL X.env.scope x:=by first | !Or.inl rfl | !Or.inr (Or.inl rfl) | !Or.inr (Or.inr rfl)) (hd:(x == ("__debug__" : Str))=false:=by decide) (hcd:(x == ("__classdict__" : Str))=false:=by decide)
  (hs:swapsWith e (some (.Subscript (.Name x p) k pos')) pos.line X.env=pure false:=by rfl) :
  tJ X (.Assign [.Subscript (.Name x p) k pos'] e pos) (mC i f fk):=j3 (aAE hu (t5 hN hv hd hcd) hk he hs) fun B σ H aGd=>by
 &⟨H₀,S,w,ρ,G,E,hl,st,ht,ok⟩:=aGd
 ~wS mC at ht
 cases h:((f ρ).bind fun p=>(EW p.1[i]?).bind fun kd=>(fk (bT p.1)).bind fun kv=>(nW kv).bind fun kk =>
  if kindB kd.2.1 kk=true/\kd.2.2.length<uK then some (p.1.set i (.ow (.dF (adr kd.1) (L4.fO kd.2.1 kd.2.2 kk p.2).1 (L4.fO kd.2.1 kd.2.2 kk p.2).2))) else none) with
 | none=>rw [h] at ht; !ht.elim
 | some ρ2 =>
  rw [h] at ht
  &⟨⟨ρ1,d1⟩,eq,h⟩:=bnd h
  &⟨⟨q0,ks,ds⟩,ed,h⟩:=bnd h
  &⟨kv,ek,h⟩:=bnd h
  &⟨kk,e2,h⟩:=bnd h
  have o0:=aAJ ed
  by_cases hc:kindB ks kk=true/\ds.length<uK
  ·rw [if_pos hc] at h
   cases h
   @⟨H₀,S,w,ρ,G,fun ρ' d=>ρ' = ρ1/\d=d1,hl,st,⟨_,eq,rfl,rfl⟩,fun w' v H' ρ' d st' dv q'=>?_⟩
   &⟨rfl,rfl⟩:=q'
   &⟨a0,_,_⟩:=st'.own i _ o0
   @⟨_,a0,S,bT ρ',fun y=>y=kv,st'.OQ,st'.all,⟨kv,ek,rfl⟩,fun y H2 y' s2 dy ey=>?_⟩
   subst ey
   have st2:=st'.same s2
   &⟨a,b,c⟩:=st2.own i _ o0
   &⟨o,kvs,hp,⟨e5,hq⟩,dn⟩:=c
   subst e5
   have nS:¬ SO S w' ρ' (w' i):=fun ⟨_,z⟩=>z i _ o0 rfl
   @⟨w' i,o,kvs,kk,rfl,hp,sW dy e2,EB hc.1,?_,fun o'=>?_⟩
   ·have:=dn.len
    rw [List.length_map] at this
    rw [sizeLine_eq,<- this]
    !hc.2
   ·have F:Fits X.K (SO S w' ρ') (SO S w' ρ') H2 (upd H2 (w' i) (.dX o' (L8.fO kvs kk y v))):=.upd (.inr (.inr ⟨_,_,hp⟩)) nS
    &⟨p1,p2⟩:=aG6 (k:=kk) (y:=y) (Dn.fits (.same s2) _ _ dv) dn
    !ok.nx w' σ _ _ hl (st2.write (d':=.dF (adr q0) _ _) o0 ⟨o',_,bD,⟨p1,o,hq⟩,bC.fits F _ _ p2⟩) ht
  ·rw [if_neg hc] at h; cases h
##aAK {K:PySem.W.Frag} {H₀ H:Hp} {S:Addr->Prop} {w:Nat->Addr} {σ:L2.St} {ρ:aP} {G:List (D×V)} {i j:Nat} {d:D} (h:ST K H₀ S w σ H ρ G) (hij:i≠j) (hi:i<σ.length) (ej:ρ[j]? = some (.ow d)) :
  ST K H₀ S (fun n=>if n=i then w j else w n) (σ.set i (some (.ref (w j)))) H ((ρ.set j .no).set i (.ow d)) G:=by
 &⟨aj,bj,cj⟩:=h.own j d ej
 have hw:∀ (n:Nat) (e:D),n≠i->((ρ.set j .no).set i (.ow d))[n]? = some (Sv.ow e)->n≠j/\ρ[n]? = some (Sv.ow e):=fun n e hn he=>by
  rcases get_set he with ⟨z,_,_⟩ | ⟨_,z⟩
  ·!absurd z hn
  ·rcases get_set z with ⟨_,z,_⟩ | z
   ·cases z
   ·!z
 have so:∀ a,SO S w ρ a->SO S (fun n=>if n=i then w j else w n) ((ρ.set j .no).set i (.ow d)) a:=fun a ⟨s,n⟩=>⟨s,fun m e he=>by
  show a≠(if m=i then w j else w m)
  by_cases hm:m=i
  ·rw [if_pos hm]; !n j d ej
  ·rw [if_neg hm]; !n m e (hw m e hm he).2⟩
 @⟨h.fc,h.sm,fun n e he=>?_,fun m n d1 e1 h1 h2 z=>?_,fun n e he=>?_,fun g hg=>Dn.fits (.mono so) _ _ (h.gh g hg)⟩
 ·by_cases hn:n=i
  ·subst hn
   rcases get_set he with ⟨_,z,_⟩ | ⟨z,_⟩
   ·cases z
    rw [if_pos rfl]
    !⟨List.getElem?_set_self hi,bj,cj.fits (.mono so) fun _ z=>z⟩
   ·!absurd rfl z
  ·rw [if_neg hn]
   &⟨_,he2⟩:=hw n e hn he
   &⟨a,b,c⟩:=h.own n e he2
   !⟨by rw [List.getElem?_set_ne (Ne.symm hn)]; !a,b,c.fits (.mono so) fun _ z=>z⟩
 ·have z:(if m=i then w j else w m)=(if n=i then w j else w n):=z
  by_cases hm:m=i
  ·by_cases hn:n=i
   ·rw [hm,hn]
   ·rw [if_pos hm,if_neg hn] at z
    &⟨q1,q2⟩:=hw n e1 hn h2
    !absurd (h.inj _ _ _ _ ej q2 z).symm q1
  ·by_cases hn:n=i
   ·rw [if_neg hm,if_pos hn] at z
    &⟨q1,q2⟩:=hw m d1 hm h1
    !absurd (h.inj _ _ _ _ q2 ej z) q1
   ·rw [if_neg hm,if_neg hn] at z
    !h.inj m n d1 e1 (hw m d1 hm h1).2 (hw n e1 hn h2).2 z
 ·rcases get_set he with ⟨_,z,_⟩ | ⟨hn,z⟩
  ·cases z
  ·rcases get_set z with ⟨_,z,_⟩ | ⟨_,z⟩
   ·cases z
   ·&⟨v,a,b⟩:=h.ro n e z
    !⟨v,by rw [List.getElem?_set_ne (Ne.symm hn)]; !a,Dn.fits (.mono so) e v b⟩
##aGe {i j:Nat} {x y:Str} {pos pos' p:Pos} (hN:X.N.Nodup) (hi:X.N[i]? = some x:=by rfl) (hj:X.N[j]? = some y:=by rfl) (hx:Loc X.env.scope x:=by first | !.inl rfl | !.inr rfl) (hv:EL X.env.scope y:=by first | !Or.inl rfl | !Or.inr (Or.inl rfl) | !Or.inr (Or.inr rfl)) (hd:(y == ("__debug__" : Str))=false:=by decide) (hcd:(y == ("__classdict__" : Str))=false:=by decide)
  (hs:swapsWith (.Name y p) (some (.Name x pos')) pos.line X.env=pure false:=by rfl) (hf:X.fn x=true\/X.env.scope.names.lookup x=some .local:=by first | !.inl rfl | !.inr rfl) :
  tJ X (.Assign [.Name x pos'] (.Name y p) pos) (K4 i j):=j3 (oG hN hi hx (t5 hj hv hd hcd) hs hf) fun B σ H aGf=>by
 &⟨H₀,S,w,ρ,G,E,hl,st,ht,ok⟩:=aGf
 ~wS K4 at ht
 cases h:ρ[j]? with
 | none=>rw [h] at ht; !ht.elim
 | some sv =>
  rw [h] at ht
  cases sv with
  | no=>!ht.elim
  | ro d=>!ht.elim
  | ow d =>
   dsimp only at ht
   by_cases hij:i=j
   ·rw [if_pos hij] at ht; !ht.elim
   ·rw [if_neg hij] at ht
    !⟨_,(st.own j d h).1,ok.nx _ _ H _ (by rw [List.length_set]; !hl) (aAK st hij (by rw [hl]; !iO hi) h) ht⟩
end
section
variable {X:Cx}
end
section
variable {X:Cx}
end
end L8
end
section
namespace L8
open PySem PySem.Spec PyProof.Rows L2 L3 L4 L5
section
variable {X:Cx}
end
end L8
end
section
namespace L8
open PySem PySem.Spec PyProof.Rows L2 L3 L4
##aGg {x y:Int} (hx:0<=x) (hy:0<=y):Builtin.bitOr x y=((x.toNat ||| y.toNat:Nat):Int):=by
 ~Builtin.bitOr
 rw [bitAnd_nn (by ~Builtin.bitNot; omega) (by ~Builtin.bitNot; omega)]
 ~Builtin.bitNot
 rw [show (-(-x - 1) - 1:Int)=x by omega,show (-(-y - 1) - 1:Int)=y by omega]
 omega
section
variable {X:Cx}
def CNN (i j:Int):Prop:=0<=i/\0<=j
##aAy {i j:Int} (h:nnC i j=true):CNN i j:=by
 ~nnC at h
 rw [Bool.and_eq_true] at h
 !⟨of_decide_eq_true h.1,of_decide_eq_true h.2⟩
##aAL:i6 X (binaryOp .BitAnd) (rI CNN fun i j=>.int ((i.toNat &&& j.toNat:Nat):Int)):=opI fun i j _ _ _ _ _ hc q=>and_int (by rw [bitAnd_pp hc.1 hc.2]; !q)
##aDS:i6 X (binaryOp .BitOr) (rI CNN fun i j=>.int ((i.toNat ||| j.toNat:Nat):Int)):=opI fun i j _ _ _ _ _ hc q=>or_int (by rw [aGg hc.1 hc.2]; !q)
section
variable {a b:Expr} {fa fb:EF} {pos:Pos}
##aAz (ha:bS X a fa) (hb:bS X b fb):bS X (.BinOp a .BitAnd b pos) (aC nX fa fb):=cE (W7 aAL oJ ha hb) (iH (fS fun i j h=>aAy h))
##aGh (ha:bS X a fa) (hb:bS X b fb):bS X (.BinOp a .BitOr b pos) (aC HY fa fb):=cE (W7 aDS oJ ha hb) (iH (fS fun i j h=>aAy h))
##aMB (ha:bS X a fa) (hb:bS X b fb):bS X (.BinOp a .RShift b pos) (aC HX fa fb):=cE (W7 aCC oJ ha hb) (iH (fS fun i j h=>¥h))
##aAM (ha:bS X a fa) (hb:bS X b fb):bS X (.BinOp a .LShift b pos) (aC wK fa fb):=cE (W7 aCB oJ ha hb) (iH (fS fun i j h=>by
 simp only [Bool.and_eq_true,decide_eq_true_eq] at h
 @⟨h.1.1,by omega,?_⟩
 have:(2:Nat) ^ 64=18446744073709551616:=by decide
 rw [this]
 !h.2))
end
end
end L8
end
section
namespace L9
open PySem PySem.Spec PyProof.Rows L2 L3 L4 L5
section
variable {X:Cx}
def aBA (K:PySem.W.Frag):List V->Hp->VK->Prop:=fun xs H Q=>∃ (a:Addr) (ns:List Int),xs=[.ref a]/\gH K H a (ns.map V.int)/\ns≠[]/\Q (.int (CL ns)) H
##QB (hc:X.calm=true):jI X (.builtin "max") (aBA X.K):=by
 intro pins s σ H xs us Q I r h
 &⟨a,ns,rfl,ha,hne,q⟩:=h
 &⟨u,rfl,ru⟩:=vals1 r
 cases ru
 &⟨its,rv,p,hz⟩:=I.list ha
 have hi:=intsAre_of rv
 &⟨zs,ez⟩:=hi.allInts.items
 have en:zs.toList.map (·.1)=ns:=by
  rw [<- nums_intItems,<- ez]
  !hi.numsOf
 have sz:zs.size=ns.length:=by rw [<- en,List.length_map,Array.length_toList]
 have hpos:0<zs.size:=by rw [sz]; !List.length_pos_iff.2 hne
 have pl:s.heap.IsList a its.toArray:=p.isList
 have pt:s.heap.IsList a (intItems zs):=ez▸pl
 have hlt:a<s.heap.objs.size:=by &⟨_,_,e,_⟩:=p; !Heap.lt_size e
 @call_max_walk (wpAny_pyIter_list pt ?_)
 @⟨_,_,_,_,_,_,_,rfl,Walks.list (A:=X.A.in1) (I.ok.hd hc) _ a (Nat.ne_of_lt hlt) (intItems zs),⟨⟨_,Heap.get?_push_size _ rfl,rfl,rfl⟩,pt.push _⟩,?_,by simpa [intItems] using hpos,CmpOf.ints_gt (numAt zs) (fun _ _=>intItems_at),fun v h' tk hP hk=>?_⟩
 ·intro b hb
  @Nat.lt_of_lt_of_eq ?_ (Heap.size_push _ _).symm
  have two:b=s.heap.objs.size\/b=a:=¥hb
  rcases two with z | z
  ·rw [z]; !Nat.lt_succ_self _
  ·rw [z]; !Nat.lt_succ_of_lt hlt
 ·have hP:(intItems zs)[argBest (fun i j=>decide (numAt zs i>numAt zs j)) (zs.size - 1)]? = some v:=by simpa [intItems] using hP
  &⟨t,rfl⟩:=intItems_at hP
  &⟨b1,b2⟩:=argBest_gt (numAt zs) (zs.size - 1)
  generalize argBest (fun i j=>decide (numAt zs i>numAt zs j)) (zs.size - 1)=J at b1 b2
  have atz:∀ j,j<ns.length->numAt zs j=ns.getD j 0:=fun j hj=>by rw [numAt_eq,en]
  have mem:numAt zs J∈ns:=by
   rw [atz J °,List.getD_eq_getElem?_getD,List.getElem?_eq_getElem °]
   !List.getElem_mem _
  have top:∀ b∈ns,b<=numAt zs J:=fun b hb=>by
   &⟨j,hj,ej⟩:=List.getElem_of_mem hb
   subst ej
   have:=b2 j °
   rw [atz j hj,List.getD_eq_getElem?_getD,List.getElem?_eq_getElem hj] at this
   !this
  have key:CL ns=numAt zs J:=by
   cases ns with
   | nil=>!absurd rfl hne
   | cons c l=>!D9 l c _ (List.mem_cons.1 mem) (top c (by simp)) fun b hb=>top b (by simp [hb])
  @⟨.int (CL ns),H,I.kept fun b o e=>hk b o (fun hb=>?_) (Heap.get?_push_of_some _ e),⟨t,by rw [key]⟩,q⟩
  have:b=s.heap.objs.size:=¥hb
  !Nat.lt_irrefl _ (this▸Heap.lt_size e)
def aBB:F1
 | [.lst ds],Q=>∃ ns:List Int,ds=ns.map D.int/\ns≠[]/\Q (.int (CL ns))
 | _,_=>False
##aAN {K:PySem.W.Frag}:C3 K (aBA K) aBB:=by
 intro S H xs ds Q3 Q fc hd hf k
 match ds,hf with
 | [.lst es],⟨ns,e,ne,q⟩ =>
  subst e
  &⟨v,r,rfl,h1,h2⟩:=hd.bV
  simp only [bC] at h2
  subst h2
  simp only [Dn] at h1
  &⟨a,ys,rfl,ha,_,da⟩:=h1
  have e2:=bC.ints.1 da
  subst e2
  !⟨a,ns,rfl,(gH.of ha),ne,k _ H _ (Same.refl H) (by simp only [Dn]) q⟩
##J8:qU aBB K5:=fun ds d Q e q=>by
 ~K5 at e
 split at e
 ·&⟨ns,e1,e⟩:=bnd e
  by_cases ne:ns=[]
  ·rw [if_pos ne] at e; cases e
  ·rw [if_neg ne] at e
   cases e
   have:=ints_of e1
   subst this
   !⟨ns,rfl,ne,q⟩
 ·cases e
##aGi {p pos:Pos} {e:Expr} {t:AF} (hc:X.calm=true) (hm:X.mg "max" = none) (ha:zZ X [e] t) (hg:Gl X "max" := by rfl) (he:starEach [e] X.env=(false,eval e X.env)::starEach [] X.env:=by rfl):bS X (.Call (.Name "max" p) [e] [] pos) (bF K5 t) :=
 cE (D0 (QB hc) aAN PyProof.Rows.boot_max hg hm ha § § he (by rfl)) (JR J8)
end
end L9
end
section
namespace K32
open PySem L2 L3 L4 L6 L7 L8 L9 L5
def top (i : Nat) : Stmt := PySem.Challenge.pw_risecount_k32_looker_right.main.body.getD i (.Pass ⟨0, 0, 0, 0⟩)
section
variable {P:Program} {w:World} {K:PySem.W.Frag} {mg:Str->Option Value} {base:Heap} {f:Addr} {fd:FuncData}
abbrev eQ:Stmt:=top 7
##nO:bH ["n"] ["n"] (aI eQ):=⟨rfl,rfl,rfl,by decide +kernel,rfl,by decide +kernel,by decide +kernel⟩
##vI {kk:Nat} (F:nU K "are_too_many" "are_too_many" eQ f fd) {lV:Tok} (lW:mg "MOST_THINGS" = some (.int 9 lV)):aW P w K mg base dO (kk+1) f fd ["n"] (eF K LL.eP):=by
 @jJ F nO rfl rfl (fun cdv A outer s H E hr=>?_)
 have nd:=nO.nd
 !(aS (fP (gt4 (x4 0) (c4 lW))))
abbrev i8:Stmt:=top 10
##uY:bH ["number", "n"] ["number", "n"] (aI i8):=⟨rfl,rfl,rfl,by decide +kernel,rfl,by decide +kernel,by decide +kernel⟩
##G7 {kk:Nat} (F:nU K "is_thing" "is_thing" i8 f fd):aW P w K mg base dO (kk+1) f fd ["number", "n"] (eF K LL.dA):=by
 @jJ F uY rfl rfl (fun cdv A outer s H E hr=>?_)
 have nd:=uY.nd
 !(aS (fP (aCr ME MD VD VC i4 (x4 0) (x4 1))))
abbrev gZ:Stmt:=top 11
##sY:bH ["things", "n", "place", "thing"] ["things", "n"] (aI gZ):=⟨rfl,rfl,rfl,by decide +kernel,rfl,by decide +kernel,by decide +kernel⟩
##EC {kk:Nat} {g1:Addr} {d1:FuncData} (F:nU K "is_rising" "is_rising" gZ f fd) (gK:aW P w K mg base dO kk g1 d1 ["number", "n"] (eF K LL.dA)) (gM:mg "is_thing" = some (.ref g1)) (gO:PySem.W.keepIn K (.ref g1)=true) (gR:Binds K d1 ["number", "n"] []) (eG:mg "enumerate" = none):aW P w K mg base dO (kk+1) f fd ["things", "n"] (eF K LL.gW):=by
 @jJ F sY rfl rfl (fun cdv A outer s H E hr=>?_)
 have nd:=sY.nd
 !(bI (qY rfl PassesOwn.never (qX eG (aF (x4 0) aL)) (GO (i:=2) (j:=3) rfl nd)
   (bI (iI (sP (x9 (cD gK hr gM gO gR (aF (x4 3) (aF (x4 1) aL)))))
    (aS (fP b4))
    jS)
   (aS (iI (BX.pt (x8 (D4 (x4 2) i4) (x6 (aF9 (fG (x4 0) (Z7 (x4 2) i4)) (x4 3)))))
    (aS (fP b4))
    jS))))
  (aS (fP b4)))
abbrev eD:Stmt:=top 12
##mM:bH ["rows", "row", "thing"] ["rows", "row"] (aI eD):=⟨rfl,rfl,rfl,by decide +kernel,rfl,by decide +kernel,by decide +kernel⟩
##uF {kk:Nat} (F:nU K "has_all_below" "has_all_below" eD f fd) (sZ:mg "all" = none):aW P w K mg base dO (kk+1) f fd ["rows", "row"] (eF K LL.eB):=by
 @jJ F mM rfl rfl (fun cdv A outer s H E hr=>?_)
 have nd:=mM.nd
 !(bI (qY rfl PassesOwn.never (sR (x4 1)) (nN (i:=2) nd)
   (aS (iI (sP (x9 (aCy rfl sZ (aF (pL.pe (oO (ls:=["lower"]) (fs:=["row"]) (fr:=[1]) rfl (sR (fG (x4 0) (x4 2))) (fun _ _ _ _ _ _ nd=>jR (i:=0) nd §) (fun _ _ _ _ _ _=>uW) (fun _ _ _ _ _ _=>(in4 (x4 0) (x4 1))))) aL))))
    (aS (fP b4))
    jS)))
  (aS (fP b4)))
abbrev mO:Stmt:=top 9
##B9:bH ["rows", "b", "row"] ["rows", "b"] (aI mO):=⟨rfl,rfl,rfl,by decide +kernel,rfl,by decide +kernel,by decide +kernel⟩
##QC {kk:Nat} {g1 g2:Addr} {d1 d2:FuncData} (F:nU K "is_row" "is_row" mO f fd) (vJ:aW P w K mg base dO kk g1 d1 ["rows", "row"] (eF K LL.eB)) (vK:mg "has_all_below" = some (.ref g1)) (vL:PySem.W.keepIn K (.ref g1)=true) (vM:Binds K d1 ["rows", "row"] []) (G8:aW P w K mg base dO kk g2 d2 ["things", "n"] (eF K LL.gW)) (G9:mg "is_rising" = some (.ref g2)) (HA:PySem.W.keepIn K (.ref g2)=true) (HB:Binds K d2 ["things", "n"] []) (aT:mg "len" = none):aW P w K mg base dO (kk+1) f fd ["rows", "b"] (eF K LL.mG):=by
 @jJ F B9 rfl rfl (fun cdv A outer s H E hr=>?_)
 have nd:=B9.nd
 !(bI (fC (i:=2) nd (fG (x4 0) (x4 1)))
  (aS (fP (D5 (cD G8 hr G9 HA HB (aF (x4 2) (aF (eU aT (aF (x4 0) aL)) aL))) (D5 (aCq (x4 1) (x4 2)) (JP (cD vJ hr vK vL vM (aF (x4 0) (aF (x4 2) aL)))))))))
abbrev i9:Stmt:=top 8
##uZ:bH ["rows"] ["rows"] (aI i9):=⟨rfl,rfl,rfl,by decide +kernel,rfl,by decide +kernel,by decide +kernel⟩
##HC {kk:Nat} {g1 g2:Addr} {d1 d2:FuncData} (F:nU K "is_order" "is_order" i9 f fd) (WP:aW P w K mg base dO kk g1 d1 ["rows", "b"] (eF K LL.mG)) (WQ:mg "is_row" = some (.ref g1)) (WR:PySem.W.keepIn K (.ref g1)=true) (WU:Binds K d1 ["rows", "b"] []) (yJ:aW P w K mg base dO kk g2 d2 ["n"] (eF K LL.eP)) (yK:mg "are_too_many" = some (.ref g2)) (yL:PySem.W.keepIn K (.ref g2)=true) (yM:Binds K d2 ["n"] []) (aT:mg "len" = none) (bN:mg "range" = none) (sZ:mg "all" = none):aW P w K mg base dO (kk+1) f fd ["rows"] (eF K LL.iW):=by
 @jJ F uZ rfl rfl (fun cdv A outer s H E hr=>?_)
 have nd:=uZ.nd
 !(bI (iI (x9 (cD yJ hr yK yL yM (aF (eU aT (aF (x4 0) aL)) aL)))
   (aS (fP b4))
   jS)
  (aS (fP (aCy rfl sZ (aF (pL.pe (oO (ls:=["thing"]) (fs:=["rows"]) (fr:=[0]) rfl (fY bN (eU aT (aF (x4 0) aL))) (fun _ _ _ _ _ _ nd=>jR (i:=0) nd §) (fun _ _ _ _ _ _=>uW) (fun _ _ _ _ _ _=>(cD WP hr WQ WR WU (aF (x4 1) (aF (x4 0) aL)))))) aL)))))
abbrev dB:Stmt:=top 14
##jU:bH ["n", "a", "b"] ["n", "a", "b"] (aI dB):=⟨rfl,rfl,rfl,by decide +kernel,rfl,by decide +kernel,by decide +kernel⟩
##pX {kk:Nat} {g1:Addr} {d1:FuncData} (F:nU K "refuse_strangers" "refuse_strangers" dB f fd) (gK:aW P w K mg base dO kk g1 d1 ["number", "n"] (eF K LL.dA)) (gM:mg "is_thing" = some (.ref g1)) (gO:PySem.W.keepIn K (.ref g1)=true) (gR:Binds K d1 ["number", "n"] []) {mP:Addr} (uG:mg "NoThing" = some (.ref mP)) (uH:VU K mP):aW P w K mg base (zK P w) (kk+1) f fd ["n", "a", "b"] (M0 K mg LL.bA):=by
 @aDD F jU rfl rfl (fun cdv A outer s H E hr=>?_)
 have nd:=jU.nd
 !(aS (iI (BX.pt (VF (sP (x9 (cD gK hr gM gO gR (aF (x4 1) (aF (x4 0) aL))))) (VE (sP (x9 (cD gK hr gM gO gR (aF (x4 2) (aF (x4 0) aL))))))))
   (aS (JX rfl rfl uG uH (aF s4 aL)))
   jS))
abbrev hJ:Stmt:=top 13
##tE:bH ["order", "a", "b", "lower", "rows", "thing", "row", "reached"] ["order", "a", "b"] (aI hJ):=⟨rfl,rfl,rfl,by decide +kernel,rfl,by decide +kernel,by decide +kernel⟩
##ED {kk:Nat} {g1:Addr} {d1:FuncData} (F:nU K "put_under" "put_under" hJ f fd) (dS:aW P w K mg base (zK P w) kk g1 d1 ["n", "a", "b"] (M0 K mg LL.bA)) (dU:mg "refuse_strangers" = some (.ref g1)) (dW:PySem.W.keepIn K (.ref g1)=true) (dY:Binds K d1 ["n", "a", "b"] []) {oS:Addr} (yN:mg "Looped" = some (.ref oS)) (yO:VU K oS) (d9:mg "tuple" = none) (eG:mg "enumerate" = none) (iK:mg "sorted" = none) (WV:mg "set" = none) (aT:mg "len" = none):aW P w K mg base (zK P w) (kk+1) f fd ["order", "a", "b"] (M0 K mg LL.eW):=by
 @aDD F tE rfl rfl (fun cdv A outer s H E hr=>?_)
 have nd:=tE.nd
 !(bI (VT (B3 dS hr dU dW dY (aF (eU aT (aF (x4 0) aL)) (aF (x4 1) (aF (x4 2) aL)))) (JW rfl dS hr dU dW dY (aF (eU aT (aF (x4 0) aL)) (aF (x4 1) (aF (x4 2) aL)))))
  (bI (iI (BX.pt (VF (x5 (x4 1) (x4 2)) (VE (aFa (x4 2) (fG (x4 0) (x4 1))))))
   (aS (JX rfl rfl yN yO (aF s4 aL)))
   jS)
  (bI (fC (i:=3) nd (iN (fG (x4 0) (x4 1)) (qT (aF (x4 1) aL))))
  (bI (AB (i:=4) nd (pV aL))
  (bI (aGM (qY rfl PassesOwn.never (qX eG (aF (x4 0) aL)) (GO (i:=5) (j:=6) rfl nd)
   (bI (fC (i:=7) nd (or4 (eq4 (x4 5) (x4 2)) (JP (in4 (x4 2) (x4 6)))))
   (aS (mL (yC (i:=4) (uC (if4 (x9 (x4 7)) (oM d9 (aF (pL.pe (J7 rfl iK WV (aF (iN (x4 6) (x4 3)) aL))) aL)) (x4 6)))))))))
  (aS (fP (oM d9 (aF (x4 4) aL)))))))))
abbrev hV:Stmt:=top 17
##tF:bH ["order", "a", "b"] ["order", "a", "b"] (aI hV):=⟨rfl,rfl,rfl,by decide +kernel,rfl,by decide +kernel,by decide +kernel⟩
##EE {kk:Nat} (F:nU K "are_loose" "are_loose" hV f fd):aW P w K mg base dO (kk+1) f fd ["order", "a", "b"] (eF K LL.cK):=by
 @jJ F tF rfl rfl (fun cdv A outer s H E hr=>?_)
 have nd:=tF.nd
 !(aS (fP (D5 (ne4 (x4 1) (x4 2)) (D5 (aCq (x4 1) (fG (x4 0) (x4 2))) (JP (aCq (x4 2) (fG (x4 0) (x4 1))))))))
abbrev fJ:Stmt:=top 16
##oU:bH ["order", "pairs", "a"] ["order"] (aI fJ):=⟨rfl,rfl,rfl,by decide +kernel,rfl,by decide +kernel,by decide +kernel⟩
##yP {kk:Nat} {g1:Addr} {d1:FuncData} (F:nU K "loose_pairs" "loose_pairs" fJ f fd) (jK:aW P w K mg base dO kk g1 d1 ["order", "a", "b"] (eF K LL.cK)) (jL:mg "are_loose" = some (.ref g1)) (jM:PySem.W.keepIn K (.ref g1)=true) (jN:Binds K d1 ["order", "a", "b"] []) (d9:mg "tuple" = none) (aT:mg "len" = none) (bN:mg "range" = none):aW P w K mg base dO (kk+1) f fd ["order"] (eF K LL.fH):=by
 @jJ F oU rfl rfl (fun cdv A outer s H E hr=>?_)
 have nd:=oU.nd
 !(bI (AB (i:=1) nd (pV aL))
  (bI (qY rfl PassesOwn.never (fY bN (eU aT (aF (x4 0) aL))) (nN (i:=2) nd)
   (aS (mL (Z8 (i:=1) (uC (pL.pe (oO (ls:=["b"]) (fs:=["a", "order"]) (fr:=[2,0]) rfl (MY bN (iN (x4 2) i4) (eU aT (aF (x4 0) aL))) (fun _ _ _ _ _ _ nd=>jR (i:=0) nd §) (fun _ _ _ _ _ _=>yB (x9 (cD jK hr jL jM jN (aF (x4 2) (aF (x4 1) (aF (x4 0) aL)))))) (fun _ _ _ _ _ _=>(qT (aF (x4 1) (aF (x4 0) aL)))))))))))
  (aS (fP (oM d9 (aF (x4 1) aL))))))
abbrev CA:Stmt:=top 18
##WW:bH ["order", "a", "b"] ["order", "a", "b"] (aI CA):=⟨rfl,rfl,rfl,by decide +kernel,rfl,by decide +kernel,by decide +kernel⟩
##aDT {kk:Nat} {g1 g2 g3:Addr} {d1 d2 d3:FuncData} (F:nU K "cut" "cut" CA f fd) (lI:aW P w K mg base (zK P w) kk g1 d1 ["order", "a", "b"] (M0 K mg LL.eW)) (lJ:mg "put_under" = some (.ref g1)) (lK:PySem.W.keepIn K (.ref g1)=true) (lM:Binds K d1 ["order", "a", "b"] []) (jK:aW P w K mg base dO kk g2 d2 ["order", "a", "b"] (eF K LL.cK)) (jL:mg "are_loose" = some (.ref g2)) (jM:PySem.W.keepIn K (.ref g2)=true) (jN:Binds K d2 ["order", "a", "b"] []) (dS:aW P w K mg base (zK P w) kk g3 d3 ["n", "a", "b"] (M0 K mg LL.bA)) (dU:mg "refuse_strangers" = some (.ref g3)) (dW:PySem.W.keepIn K (.ref g3)=true) (dY:Binds K d3 ["n", "a", "b"] []) {kR:Addr} (rC:mg "NotLoose" = some (.ref kR)) (rD:VU K kR) (aT:mg "len" = none):aW P w K mg base (zK P w) (kk+1) f fd ["order", "a", "b"] (M0 K mg LL.BB):=by
 @aDD F WW rfl rfl (fun cdv A outer s H E hr=>?_)
 have nd:=WW.nd
 !(bI (VT (B3 dS hr dU dW dY (aF (eU aT (aF (x4 0) aL)) (aF (x4 1) (aF (x4 2) aL)))) (JW rfl dS hr dU dW dY (aF (eU aT (aF (x4 0) aL)) (aF (x4 1) (aF (x4 2) aL)))))
  (bI (iI (sP (x9 (cD jK hr jL jM jN (aF (x4 0) (aF (x4 1) (aF (x4 2) aL))))))
   (aS (JX rfl rfl rC rD (aF s4 aL)))
   jS)
  (aS (aGE (qT (aF (B3 lI hr lJ lK lM (aF (x4 0) (aF (x4 1) (aF (x4 2) aL)))) (aF (B3 lI hr lJ lK lM (aF (x4 0) (aF (x4 2) (aF (x4 1) aL)))) aL))) (aGI (aDE (JW rfl lI hr lJ lK lM (aF (x4 0) (aF (x4 1) (aF (x4 2) aL)))) (aF (B3 lI hr lJ lK lM (aF (x4 0) (aF (x4 2) (aF (x4 1) aL)))) aL)))))))
abbrev fK:Stmt:=top 21
##oV:bH ["rows", "n"] ["rows", "n"] (aI fK):=⟨rfl,rfl,rfl,by decide +kernel,rfl,by decide +kernel,by decide +kernel⟩
##yQ {kk:Nat} {g1:Addr} {d1:FuncData} (F:nU K "is_order_of" "is_order_of" fK f fd) (J9:aW P w K mg base dO kk g1 d1 ["rows"] (eF K LL.iW)) (KA:mg "is_order" = some (.ref g1)) (KB:PySem.W.keepIn K (.ref g1)=true) (KC:Binds K d1 ["rows"] []) (aT:mg "len" = none):aW P w K mg base dO (kk+1) f fd ["rows", "n"] (eF K LL.gC):=by
 @jJ F oV rfl rfl (fun cdv A outer s H E hr=>?_)
 have nd:=oV.nd
 !(aS (fP (D5 (eq4 (eU aT (aF (x4 0) aL)) (x4 1)) (JP (cD J9 hr KA KB KC (aF (x4 0) aL))))))
abbrev dC:Stmt:=top 23
##jV:bH ["order", "a", "b"] ["order", "a", "b"] (aI dC):=⟨rfl,rfl,rfl,by decide +kernel,rfl,by decide +kernel,by decide +kernel⟩
##pZ {kk:Nat} {g1 g2:Addr} {d1 d2:FuncData} (F:nU K "are_loose_things" "are_loose_things" dC f fd) (jK:aW P w K mg base dO kk g1 d1 ["order", "a", "b"] (eF K LL.cK)) (jL:mg "are_loose" = some (.ref g1)) (jM:PySem.W.keepIn K (.ref g1)=true) (jN:Binds K d1 ["order", "a", "b"] []) (gK:aW P w K mg base dO kk g2 d2 ["number", "n"] (eF K LL.dA)) (gM:mg "is_thing" = some (.ref g2)) (gO:PySem.W.keepIn K (.ref g2)=true) (gR:Binds K d2 ["number", "n"] []) (aT:mg "len" = none):aW P w K mg base dO (kk+1) f fd ["order", "a", "b"] (eF K LL.dR):=by
 @jJ F jV rfl rfl (fun cdv A outer s H E hr=>?_)
 have nd:=jV.nd
 !(aS (fP (D5 (cD gK hr gM gO gR (aF (x4 1) (aF (eU aT (aF (x4 0) aL)) aL))) (D5 (cD gK hr gM gO gR (aF (x4 2) (aF (eU aT (aF (x4 0) aL)) aL))) (JP (cD jK hr jL jM jN (aF (x4 0) (aF (x4 1) (aF (x4 2) aL)))))))))
abbrev fT:Stmt:=top 22
##tG:bH ["rows", "number", "order", "why"] ["rows", "number"] (aI fT):=⟨rfl,rfl,rfl,by decide +kernel,rfl,by decide +kernel,by decide +kernel⟩
##EG {kk:Nat} {g1 g2 g3:Addr} {d1 d2 d3:FuncData} (F:nU K "row_holds" "row_holds" fT f fd) (aGj:aW P w K mg base (zK P w) kk g1 d1 ["order", "a", "b"] (M0 K mg LL.BB)) (aGk:mg "cut" = some (.ref g1)) (aGl:PySem.W.keepIn K (.ref g1)=true) (aGm:Binds K d1 ["order", "a", "b"] []) (rE:aW P w K mg base dO kk g2 d2 ["order", "a", "b"] (eF K LL.dR)) (rF:mg "are_loose_things" = some (.ref g2)) (rG:PySem.W.keepIn K (.ref g2)=true) (rH:Binds K d2 ["order", "a", "b"] []) (AD:aW P w K mg base dO kk g3 d3 ["order"] (eF K LL.fH)) (AE:mg "loose_pairs" = some (.ref g3)) (AG:PySem.W.keepIn K (.ref g3)=true) (AH:Binds K d3 ["order"] []) (aT:mg "len" = none):aW P w K mg base dO (kk+1) f fd ["rows", "number"] (eF K LL.gX):=by
 @jJ F tG rfl rfl (fun cdv A outer s H E hr=>?_)
 have nd:=tG.nd
 have hu:(A.deeper (PyProof.Rows.envOfC "row_holds" (aI fT) s.heap.objs.size f cdv)).units+9<cLine:=by have:=hr.un; omega
 !(bI (fC (i:=2) nd (fG (fG (x4 0) (x4 1)) i4))
  (bI (fC (i:=3) nd (fG (fG (x4 0) (x4 1)) i4))
  (bI (iI (sP (x9 (cD AD hr AE AG AH (aF (x4 2) aL))))
   (aS (fP (aFu hu (x4 3) (qT aL))))
   jS)
  (bI (iI (BX.pt (VF (aLZ (eU aT (aF (x4 3) aL)) i4) (VE (sP (x9 (cD rE hr rF rG rH (aF (x4 2) (aF (fG (x4 3) i4) (aF (fG (x4 3) i4) aL)))))))))
   (aS (fP b4))
   jS)
  (bI (iI (sP (BX.pt (x8 (MW ME MD VD VC i4 (fG (x4 3) i4) (x4 1)) (x6 (MW ME MD VD VC i4 (fG (x4 3) i4) (x4 1))))))
   (aS (fP b4))
   jS)
  (aS (fP (aFu hu (B3 aGj hr aGk aGl aGm (aF (x4 2) (aF (fG (x4 3) i4) (aF (fG (x4 3) i4) aL)))) (qT (aF (fG (fG (x4 0) (fG (x4 3) i4)) i4) (aF (fG (fG (x4 0) (fG (x4 3) i4)) i4) aL)))))))))))
abbrev fD:Stmt:=top 20
##qB:bH ["order", "rows"] ["order", "rows"] (aI fD):=⟨rfl,rfl,rfl,by decide +kernel,rfl,by decide +kernel,by decide +kernel⟩
##AI {kk:Nat} {g1 g2:Addr} {d1 d2:FuncData} (F:nU K "shows_cuts" "shows_cuts" fD f fd) (HD:aW P w K mg base dO kk g1 d1 ["rows", "number"] (eF K LL.gX)) (HE:mg "row_holds" = some (.ref g1)) (HF:PySem.W.keepIn K (.ref g1)=true) (HG:Binds K d1 ["rows", "number"] []) (AJ:aW P w K mg base dO kk g2 d2 ["rows", "n"] (eF K LL.gC)) (AK:mg "is_order_of" = some (.ref g2)) (AL:PySem.W.keepIn K (.ref g2)=true) (AM:Binds K d2 ["rows", "n"] []) (eG:mg "enumerate" = none) (aT:mg "len" = none) (sZ:mg "all" = none):aW P w K mg base dO (kk+1) f fd ["order", "rows"] (eF K LL.fW):=by
 @jJ F qB rfl rfl (fun cdv A outer s H E hr=>?_)
 have nd:=qB.nd
 have hu:(A.deeper (PyProof.Rows.envOfC "shows_cuts" (aI fD) s.heap.objs.size f cdv)).units+9<cLine:=by have:=hr.un; omega
 !(bI (iI (BX.pt (VF (sP (x9 (x4 1))) (VE (aFx hu (fG (fG (x4 1) (JQ i4)) i4) (x4 0)))))
   (aS (fP b4))
   jS)
  (aS (fP (aCy rfl sZ (aF (pL.pe (oO (ls:=["number", "row"]) (fs:=["rows", "order"]) (fr:=[1,0]) rfl (qX eG (aF (x4 1) aL)) (fun _ _ _ _ _ _ nd=>aCu (i:=0) (j:=1) rfl nd § §) (fun _ _ _ _ _ _=>uW) (fun _ _ _ _ _ _=>(D5 (cD AJ hr AK AL AM (aF (fG (x4 1) i4) (aF (eU aT (aF (x4 3) aL)) aL))) (JP (cD HD hr HE HF HG (aF (x4 2) (aF (x4 0) aL)))))))) aL)))))
abbrev mQ:Stmt:=top 25
##CB:bH ["_law_script", "_law_k"] ["_law_script", "_law_k"] (aI mQ):=⟨rfl,rfl,rfl,by decide +kernel,rfl,by decide +kernel,by decide +kernel⟩
##QD {kk:Nat} (F:nU K "_law_cell" "_law_cell" mQ f fd) (aT:mg "len" = none):aW P w K mg base dO (kk+1) f fd ["_law_script", "_law_k"] (eF K LL.cM):=by
 @jJ F CB rfl rfl (fun cdv A outer s H E hr=>?_)
 have nd:=CB.nd
 !(bI (iI (x5 (eU aT (aF (x4 0) aL)) i4)
   (aS (fP i4))
   jS)
  (aS (fP (fG (x4 0) (lT (x4 1) (eU aT (aF (x4 0) aL)))))))
abbrev j6:Stmt:=top 26
##yR:bH ["_law_cell_here", "_law_k", "_law_salt", "_law_one", "_law_two"] ["_law_cell_here", "_law_k", "_law_salt"] (aI j6):=⟨rfl,rfl,rfl,by decide +kernel,rfl,by decide +kernel,by decide +kernel⟩
##KF {kk:Nat} (F:nU K "_law_mixed" "_law_mixed" j6 f fd):aW P w K mg base dO (kk+1) f fd ["_law_cell_here", "_law_k", "_law_salt"] (eF K LL.fU):=by
 @jJ F yR rfl rfl (fun cdv A outer s H E hr=>?_)
 have nd:=yR.nd
 !(bI (fC (i:=3) nd (lT (AA (iN (iN (iN (x4 0) (AA (AA i4 (x4 1)) (x4 1))) (AA i4 (x4 1))) (x4 2)) i4) i4))
  (bI (fC (i:=4) nd (lT (iN (iN (AA (x4 3) (iN (O9 (x4 3) i4) i4)) (AA i4 (x4 1))) (x4 2)) i4))
  (aS (fP (lT (AA (x4 4) i4) i4)))))
abbrev j7:Stmt:=top 27
##yS:bH ["_law_cell_here", "_law_many_here", "_law_salt", "_law_found", "_law_left", "_law_k"] ["_law_cell_here", "_law_many_here", "_law_salt"] (aI j7):=⟨rfl,rfl,rfl,by decide +kernel,rfl,by decide +kernel,by decide +kernel⟩
##KG {kk:Nat} {g1:Addr} {d1:FuncData} (F:nU K "_law_draws" "_law_draws" j7 f fd) (QE:aW P w K mg base dO kk g1 d1 ["_law_cell_here", "_law_k", "_law_salt"] (eF K LL.fU)) (QF:mg "_law_mixed" = some (.ref g1)) (QG:PySem.W.keepIn K (.ref g1)=true) (QH:Binds K d1 ["_law_cell_here", "_law_k", "_law_salt"] []) (bN:mg "range" = none):aW P w K mg base dO (kk+1) f fd ["_law_cell_here", "_law_many_here", "_law_salt"] (eF K LL.bX):=by
 @jJ F yS rfl rfl (fun cdv A outer s H E hr=>?_)
 have nd:=yS.nd
 !(bI (AB (i:=3) nd (pV aL))
  (bI (fC (i:=4) nd i4)
  (bI (iI (aF9 (x4 0) (aLW i4 i4))
   (aS (fC (i:=4) nd (x4 0)))
   jS)
  (bI (qY rfl PassesOwn.never (fY bN (x4 1)) (nN (i:=5) nd)
   (aS (iI (D4 (x4 4) i4)
    (bI (mL (yC (i:=3) (uC (lT (x4 4) i4))))
    (aS (fC (i:=4) nd (O9 (x4 4) i4))))
    (aS (mL (yC (i:=3) (uC (cD QE hr QF QG QH (aF (x4 0) (aF (x4 5) (aF (x4 2) aL)))))))))))
  (aS (fP (x4 3)))))))
abbrev jA:Stmt:=top 28
##yT:bH ["_law_draws_here", "_law_n", "_law_thick", "_law_rest", "_law_word", "_law_k", "_law_low", "_law_at", "_law_j", "_law_under", "_law_i"] ["_law_draws_here", "_law_n", "_law_thick"] (aI jA):=⟨rfl,rfl,rfl,by decide +kernel,rfl,by decide +kernel,by decide +kernel⟩
##KH {kk:Nat} (F:nU K "_law_order" "_law_order" jA f fd) (bN:mg "range" = none) (iK:mg "sorted" = none) (d9:mg "tuple" = none) (aT:mg "len" = none) (rJ:mg "list" = none):aW P w K mg base dO (kk+1) f fd ["_law_draws_here", "_law_n", "_law_thick"] (eF K LL.dM):=by
 @jJ F yT rfl rfl (fun cdv A outer s H E hr=>?_)
 have nd:=yT.nd
 have hu:(A.deeper (PyProof.Rows.envOfC "_law_order" (aI jA) s.heap.objs.size f cdv)).units+1<cLine:=by have:=hr.un; omega
 !(bI (AB (i:=3) nd (JT rfl rJ bN (aF (x4 1) aL)))
  (bI (AB (i:=4) nd (pV aL))
  (bI (qY rfl PassesOwn.never (fY bN (x4 1)) (nN (i:=5) nd)
   (aS (mL (yC (i:=4) (aLt (i:=3) (px4 (lT (fG (x4 0) (x4 5)) (eU aT (aF (x4 3) aL)))))))))
  (bI (VM (i:=6) nd)
  (bI (fC (i:=7) nd (x4 1))
  (bI (qY rfl PassesOwn.never (fY bN (x4 1)) (nN (i:=8) nd)
   (bI (fC (i:=9) nd (pL.pe (pV aL)))
   (bI (qY rfl PassesOwn.never (fY bN (x4 8)) (nN (i:=10) nd)
    (bI (iI (aLX (lT (fG (x4 0) (x4 7)) i4) (x4 2))
     (aS (aAs (i:=9) nd (aAp (x4 9) (pL.pe (oO (ls:=["_law_a"]) (fs:=["_law_under"]) (fr:=[9]) rfl (sR (iN (aFb hu (x4 6) (fG (x4 4) (x4 10))) (pL.pe (pV (aF (fG (x4 4) (x4 10)) aL))))) (fun _ _ _ _ _ _ nd=>jR (i:=0) nd §) (fun _ _ _ _ _ _=>yB (MU (x4 0) (x4 1))) (fun _ _ _ _ _ _=>(x4 0)))))))
     jS)
    (aS (fC (i:=7) nd (iN (x4 7) i4)))))
   (aS (aFk (i:=6) hu (uC (x4 9)) (fG (x4 4) (x4 8)))))))
  (aS (fP (oM d9 (aF (pL.pe (oO (ls:=["_law_b"]) (fs:=["_law_low"]) (fr:=[6]) rfl (fY bN (x4 1)) (fun _ _ _ _ _ _ nd=>jR (i:=0) nd §) (fun _ _ _ _ _ _=>uW) (fun _ _ _ _ _ _=>(oM d9 (aF (pL.pe (MX iK (aF (aFb hu (x4 1) (x4 0)) aL))) aL))))) aL))))))))))
abbrev j8:Stmt:=top 29
##yU:bH ["_law_order_here", "_law_found", "_law_a", "_law_b"] ["_law_order_here"] (aI j8):=⟨rfl,rfl,rfl,by decide +kernel,rfl,by decide +kernel,by decide +kernel⟩
##KI {kk:Nat} (F:nU K "_law_loose" "_law_loose" j8 f fd) (aT:mg "len" = none) (bN:mg "range" = none):aW P w K mg base dO (kk+1) f fd ["_law_order_here"] (eF K LL.iX):=by
 @jJ F yU rfl rfl (fun cdv A outer s H E hr=>?_)
 have nd:=yU.nd
 !(bI (AB (i:=1) nd (pV aL))
  (bI (qY rfl PassesOwn.never (fY bN (eU aT (aF (x4 0) aL))) (nN (i:=2) nd)
   (aS (qY rfl PassesOwn.never (MY bN (iN (x4 2) i4) (eU aT (aF (x4 0) aL))) (nN (i:=3) nd)
    (aS (iI (BX.pt (x8 (MU (x4 2) (fG (x4 0) (x4 3))) (x6 (MU (x4 3) (fG (x4 0) (x4 2))))))
     (aS (mL (yC (i:=1) (uC (qT (aF (x4 2) (aF (x4 3) aL)))))))
     jS)))))
  (aS (fP (x4 1)))))
abbrev pN:Stmt:=top 30
##HH:bH ["_law_order_here", "_law_a", "_law_b", "_law_low", "_law_found", "_law_c", "_law_under"] ["_law_order_here", "_law_a", "_law_b"] (aI pN):=⟨rfl,rfl,rfl,by decide +kernel,rfl,by decide +kernel,by decide +kernel⟩
##WY {kk:Nat} (F:nU K "_law_put" "_law_put" pN f fd) (d9:mg "tuple" = none) (aT:mg "len" = none) (bN:mg "range" = none) (iK:mg "sorted" = none) (rJ:mg "list" = none):aW P w K mg base dO (kk+1) f fd ["_law_order_here", "_law_a", "_law_b"] (eF K LL.jZ):=by
 @jJ F HH rfl rfl (fun cdv A outer s H E hr=>?_)
 have nd:=HH.nd
 !(bI (fC (i:=3) nd (iN (pL.pe (aAr rJ (aF (fG (x4 0) (x4 1)) aL))) (pL.pe (pV (aF (x4 1) aL)))))
  (bI (AB (i:=4) nd (pV aL))
  (bI (qY rfl PassesOwn.never (fY bN (eU aT (aF (x4 0) aL))) (nN (i:=5) nd)
   (bI (fC (i:=6) nd (pL.pe (aAr rJ (aF (fG (x4 0) (x4 5)) aL))))
   (bI (iI (BX.pt (VF (x5 (x4 5) (x4 2)) (VE (aFa (x4 2) (fG (x4 0) (x4 5))))))
    (aS (fC (i:=6) nd (iN (x4 6) (pL.pe (oO (ls:=["_law_x"]) (fs:=["_law_under"]) (fr:=[6]) rfl (sR (x4 3)) (fun _ _ _ _ _ _ nd=>jR (i:=0) nd §) (fun _ _ _ _ _ _=>yB (MU (x4 0) (x4 1))) (fun _ _ _ _ _ _=>(x4 0)))))))
    jS)
   (aS (mL (yC (i:=4) (uC (oM d9 (aF (pL.pe (MX iK (aF (x4 6) aL))) aL)))))))))
  (aS (fP (oM d9 (aF (x4 4) aL)))))))
abbrev jB:Stmt:=top 31
##yV:bH ["_law_order_here", "_law_draws_here", "_law_rows", "_law_numbers", "_law_waiting", "_law_one", "_law_pairs", "_law_pick", "_law_a", "_law_b", "_law_parts", "_law_missing"] ["_law_order_here", "_law_draws_here"] (aI jB):=⟨rfl,rfl,rfl,by decide +kernel,rfl,by decide +kernel,by decide +kernel⟩
##KJ {kk:Nat} {g1 g2:Addr} {d1 d2:FuncData} (F:nU K "_law_paper" "_law_paper" jB f fd) (M8:aW P w K mg base dO kk g1 d1 ["_law_order_here", "_law_a", "_law_b"] (eF K LL.jZ)) (M9:mg "_law_put" = some (.ref g1)) (NA:PySem.W.keepIn K (.ref g1)=true) (NB:Binds K d1 ["_law_order_here", "_law_a", "_law_b"] []) (QI:aW P w K mg base dO kk g2 d2 ["_law_order_here"] (eF K LL.iX)) (QJ:mg "_law_loose" = some (.ref g2)) (QK:PySem.W.keepIn K (.ref g2)=true) (QL:Binds K d2 ["_law_order_here"] []) (aT:mg "len" = none) (CC:mg "sum" = none):aW P w K mg base dO (kk+1) f fd ["_law_order_here", "_law_draws_here"] (eF K LL.fX):=by
 @jJ F yV rfl rfl (fun cdv A outer s H E hr=>?_)
 have nd:=yV.nd
 have hu2:(A.deeper (PyProof.Rows.envOfC "_law_paper" (aI jB) s.heap.objs.size f cdv)).units+2<cLine:=by have:=hr.un; omega
 !(bI (AB (i:=2) nd (pV aL))
  (bI (aAx (i:=3) nd)
  (bI (AB (i:=4) nd (pV (aF (x4 0) aL)))
  (bI (aCw PassesOwn.never (D4 (eU aT (aF (x4 4) aL)) i4)
   (bI (aFj (i:=5) nd (px4 (fG (x4 4) (JQ i4))))
   (bI (fC (i:=6) nd (cD QI hr QJ QK QL (aF (x4 5) aL)))
   (aS (iI (aG8 hu2 (x4 5) (x4 3))
    (aS (mL (aFg (i:=4))))
    (aS (iI (x5 (eU aT (aF (x4 6) aL)) i4)
     (bI (WN (i:=3) hu2 (px4 (eU aT (aF (x4 2) aL))) (x4 5))
     (aS (mL (yC (i:=2) (uC (qT (aF (x4 5) (aF (qT aL) aL))))))))
     (bI (fC (i:=7) nd (fG (x4 1) (lT (aFc rfl CC (aF (pL.pe (oO (ls:=["_law_row"]) (fs:=[]) (fr:=[]) rfl (sR (x4 5)) (fun _ _ _ _ _ _ nd=>jR (i:=0) nd §) (fun _ _ _ _ _ _=>uW) (fun _ _ _ _ _ _=>(eU aT (aF (x4 0) aL))))) aL)) (eU aT (aF (x4 1) aL)))))
     (bI (aAu (uC (fG (x4 6) (lT (x4 7) (eU aT (aF (x4 6) aL))))) (GO (i:=8) (j:=9) rfl nd))
     (bI (iI (x5 (lT (O9 (x4 7) i4) i4) i4)
      (aS (aLx (i:=8) (j:=9) rfl nd (aF (x4 9) (aF (x4 8) aL))))
      jS)
     (bI (fC (i:=10) nd (pL.pe (pV (aF (cD M8 hr M9 NA NB (aF (x4 5) (aF (x4 8) (aF (x4 9) aL)))) (aF (cD M8 hr M9 NA NB (aF (x4 5) (aF (x4 9) (aF (x4 8) aL)))) aL)))))
     (bI (JZ (i:=11) (ls:=["_law_part"]) (fs:=["_law_numbers"]) (fr:=[3]) nd rfl (sR (x4 10)) (fun _ _ _ _ _ _ nd=>jR (i:=0) nd §) (fun _ _ _ _ _ _=>yB (aDP hu2 (x4 0) (x4 1))) (fun _ _ _ _ _ _=>(x4 0)))
     (aS (iI (D4 (eU aT (aF (x4 11) aL)) i4)
      (aS (mL (yC (i:=4) (uC (fG (x4 11) (lT (O9 (x4 7) i4) (eU aT (aF (x4 11) aL))))))))
      (bI (WN (i:=3) hu2 (px4 (eU aT (aF (x4 2) aL))) (x4 5))
      (aS (mL (yC (i:=2) (px4 (qT (aF (x4 5) (aF (qT (aF (x4 8) (aF (x4 9) (aF (aAI hu2 (x4 3) (fG (x4 10) i4)) (aF (aAI hu2 (x4 3) (fG (x4 10) i4)) aL))))) aL))))))))))))))))))))))
  (aS (fP (x4 2)))))))
abbrev j9:Stmt:=top 32
##yW:bH ["_law_order_here"] ["_law_order_here"] (aI j9):=⟨rfl,rfl,rfl,by decide +kernel,rfl,by decide +kernel,by decide +kernel⟩
##KL {kk:Nat} (F:nU K "_law_masks" "_law_masks" j9 f fd) (CC:mg "sum" = none):aW P w K mg base dO (kk+1) f fd ["_law_order_here"] (eF K LL.iU):=by
 @jJ F yW rfl rfl (fun cdv A outer s H E hr=>?_)
 have nd:=yW.nd
 !(aS (fP (pL.pe (oO (ls:=["_law_row"]) (fs:=[]) (fr:=[]) rfl (sR (x4 0)) (fun _ _ _ _ _ _ nd=>jR (i:=0) nd §) (fun _ _ _ _ _ _=>uW) (fun _ _ _ _ _ _=>(aFc rfl CC (aF (pL.pe (oO (ls:=["_law_a"]) (fs:=[]) (fr:=[]) rfl (sR (x4 0)) (fun _ _ _ _ _ _ nd=>jR (i:=0) nd §) (fun _ _ _ _ _ _=>uW) (fun _ _ _ _ _ _=>(aAM i4 (x4 0))))) aL)))))))
abbrev jO:Stmt:=top 33
##CD:bH ["_law_order_here", "_law_masks_here", "_law_ways", "_law_step", "_law_fresh", "_law_mask", "_law_b"] ["_law_order_here"] (aI jO):=⟨rfl,rfl,rfl,by decide +kernel,rfl,by decide +kernel,by decide +kernel⟩
##QM {kk:Nat} {g1:Addr} {d1:FuncData} (F:nU K "_law_many" "_law_many" jO f fd) (QN:aW P w K mg base dO kk g1 d1 ["_law_order_here"] (eF K LL.iU)) (QO:mg "_law_masks" = some (.ref g1)) (QP:PySem.W.keepIn K (.ref g1)=true) (QQ:Binds K d1 ["_law_order_here"] []) (aT:mg "len" = none) (bN:mg "range" = none):aW P w K mg base dO (kk+1) f fd ["_law_order_here"] (eF K LL.gB):=by
 @jJ F CD rfl rfl (fun cdv A outer s H E hr=>?_)
 have nd:=CD.nd
 have hu1:(A.deeper (PyProof.Rows.envOfC "_law_many" (aI jO) s.heap.objs.size f cdv)).units+1<cLine:=by have:=hr.un; omega
 have hu2:(A.deeper (PyProof.Rows.envOfC "_law_many" (aI jO) s.heap.objs.size f cdv)).units+2<cLine:=by have:=hr.un; omega
 !(bI (fC (i:=1) nd (cD QN hr QO QP QQ (aF (x4 0) aL)))
  (bI (aDR (i:=2) hu1 nd i4 i4)
  (bI (qY rfl PassesOwn.never (fY bN (eU aT (aF (x4 0) aL))) (nN (i:=3) nd)
   (bI (aAx (i:=4) nd)
   (bI (aFy 2 (qY rfl PassesOwn.never (aDQ (x4 2)) (nN (i:=5) nd)
    (aS (qY rfl PassesOwn.never (fY bN (eU aT (aF (x4 0) aL))) (nN (i:=6) nd)
     (aS (iI (BX.pt (x8 (x5 (aAz (aMB (x4 5) (x4 6)) i4) i4) (x6 (x5 (aAz (fG (x4 1) (x4 6)) (x4 5)) (fG (x4 1) (x4 6))))))
      (aS (WN (i:=4) hu2 (px4 (iN (aG9 hu2 (x4 4) (aGh (x4 5) (aAM i4 (x4 6))) i4 ⟨rfl,rfl,rfl,rfl⟩) (aAI hu2 (x4 2) (x4 5)))) (aGh (x4 5) (aAM i4 (x4 6)))))
      jS))))))
   (aS (aGe (i:=2) (j:=4) nd)))))
  (aS (fP (aAI hu2 (x4 2) (Z7 (aAM i4 (eU aT (aF (x4 0) aL))) i4)))))))
abbrev kB:Stmt:=top 34
##yX:bH ["_law_script", "_law_k", "_law_salt", "_law_head", "_law_n", "_law_thick", "_law_draws_here", "_law_order_here"] ["_law_script", "_law_k", "_law_salt"] (aI kB):=⟨rfl,rfl,rfl,by decide +kernel,rfl,by decide +kernel,by decide +kernel⟩
##KM {kk:Nat} {g1 g2 g3 g4:Addr} {d1 d2 d3 d4:FuncData} (F:nU K "_law_small" "_law_small" kB f fd) (yY:aW P w K mg base dO kk g1 d1 ["_law_order_here"] (eF K LL.gB)) (yZ:mg "_law_many" = some (.ref g1)) (y6:PySem.W.keepIn K (.ref g1)=true) (y7:Binds K d1 ["_law_order_here"] []) (pO:aW P w K mg base dO kk g2 d2 ["_law_draws_here", "_law_n", "_law_thick"] (eF K LL.dM)) (pP:mg "_law_order" = some (.ref g2)) (pQ:PySem.W.keepIn K (.ref g2)=true) (pR:Binds K d2 ["_law_draws_here", "_law_n", "_law_thick"] []) (mR:aW P w K mg base dO kk g3 d3 ["_law_cell_here", "_law_many_here", "_law_salt"] (eF K LL.bX)) (mS:mg "_law_draws" = some (.ref g3)) (mT:PySem.W.keepIn K (.ref g3)=true) (mU:Binds K d3 ["_law_cell_here", "_law_many_here", "_law_salt"] []) (oW:aW P w K mg base dO kk g4 d4 ["_law_script", "_law_k"] (eF K LL.cM)) (oX:mg "_law_cell" = some (.ref g4)) (oY:PySem.W.keepIn K (.ref g4)=true) (oZ:Binds K d4 ["_law_script", "_law_k"] []):aW P w K mg base dO (kk+1) f fd ["_law_script", "_law_k", "_law_salt"] (eF K LL.iY):=by
 @jJ F yX rfl rfl (fun cdv A outer s H E hr=>?_)
 have nd:=yX.nd
 !(bI (fC (i:=3) nd (cD mR hr mS mT mU (aF (cD oW hr oX oY oZ (aF (x4 0) (aF (x4 1) aL))) (aF i4 (aF (x4 2) aL)))))
  (bI (fC (i:=4) nd (fG (pL.pe (pV (aF i4 (aF i4 (aF i4 (aF i4 (aF i4 (aF i4 (aF i4 (aF i4 aL)))))))))) (lT (fG (x4 3) i4) i4)))
  (bI (fC (i:=5) nd (fG (pL.pe (pV (aF i4 (aF i4 (aF i4 (aF i4 (aF i4 (aF i4 (aF i4 (aF i4 aL)))))))))) (lT (fG (x4 3) i4) i4)))
  (bI (iI (x5 (lT (fG (x4 3) i4) i4) i4)
   (bI (fC (i:=4) nd (iN i4 (lT (fG (x4 3) i4) i4)))
   (aS (fC (i:=5) nd i4)))
   jS)
  (bI (fC (i:=6) nd (cD mR hr mS mT mU (aF (cD oW hr oX oY oZ (aF (x4 0) (aF (iN (x4 1) i4) aL))) (aF (iN (x4 4) (O9 (AA (x4 4) (Z7 (x4 4) i4)) i4)) (aF (iN (x4 2) i4) aL)))))
  (bI (fC (i:=7) nd (cD pO hr pP pQ pR (aF (x4 6) (aF (x4 4) (aF (x4 5) aL)))))
  (bI (iI (BX.pt (x8 (D4 (x4 4) i4) (x6 (D4 (cD yY hr yZ y6 y7 (aF (x4 7) aL)) i4))))
   (aS (fC (i:=7) nd (cD pO hr pP pQ pR (aF (x4 6) (aF (x4 4) (aF i4 aL))))))
   jS)
  (aS (fP (x4 7))))))))))
abbrev kC:Stmt:=top 35
##y9:bH ["_law_rows", "_law_more", "_law_found", "_law_order_here", "_law_why"] ["_law_rows", "_law_more"] (aI kC):=⟨rfl,rfl,rfl,by decide +kernel,rfl,by decide +kernel,by decide +kernel⟩
##KN {kk:Nat} (F:nU K "_law_moved" "_law_moved" kC f fd) (aT:mg "len" = none):aW P w K mg base dO (kk+1) f fd ["_law_rows", "_law_more"] (eF K LL.iZ):=by
 @jJ F y9 rfl rfl (fun cdv A outer s H E hr=>?_)
 have nd:=y9.nd
 !(bI (AB (i:=2) nd (pV aL))
  (bI (qY rfl PassesOwn.never (sR (x4 0)) (GO (i:=3) (j:=4) rfl nd)
   (bI (iI (D4 (eU aT (aF (x4 4) aL)) i4)
    (aS (fC (i:=4) nd (qT (aF (fG (x4 4) i4) (aF (fG (x4 4) i4) (aF (iN (fG (x4 4) i4) (x4 1)) (aF (iN (fG (x4 4) i4) (x4 1)) aL)))))))
    jS)
   (aS (mL (yC (i:=2) (uC (qT (aF (x4 3) (aF (x4 4) aL)))))))))
  (aS (fP (x4 2)))))
abbrev gS:Stmt:=top 36
##u0:bH ["_law_rows", "_law_number"] ["_law_rows", "_law_number"] (aI gS):=⟨rfl,rfl,rfl,by decide +kernel,rfl,by decide +kernel,by decide +kernel⟩
##HI {kk:Nat} (F:nU K "_law_latest" "_law_latest" gS f fd) (aT:mg "len" = none) (bN:mg "range" = none) (WZ:mg "max" = none):aW P w K mg base dO (kk+1) f fd ["_law_rows", "_law_number"] (eF K LL.cJ):=by
 @jJ F u0 rfl rfl (fun cdv A outer s H E hr=>?_)
 have nd:=u0.nd
 have hu:(A.deeper (PyProof.Rows.envOfC "_law_latest" (aI gS) s.heap.objs.size f cdv)).units+9<cLine:=by have:=hr.un; omega
 !(aS (fP (aGi rfl WZ (aF (pL.pe (oO (ls:=["_law_at"]) (fs:=["_law_rows", "_law_number"]) (fr:=[0,1]) rfl (fY bN (Z7 (eU aT (aF (x4 0) aL)) i4)) (fun _ _ _ _ _ _ nd=>jR (i:=0) nd §) (fun _ _ _ _ _ _=>yB (aFw hu (fG (fG (x4 1) (x4 0)) i4) (fG (fG (x4 1) (x4 2)) i4))) (fun _ _ _ _ _ _=>(x4 0)))) aL))))
abbrev jC:Stmt:=top 37
##u3:bH ["_law_script", "_law_order_here", "_law_draws_here", "_law_size", "_law_rows", "_law_other", "_law_ahead", "_law_twice", "_law_why"] ["_law_script"] (aI jC):=⟨rfl,rfl,rfl,by decide +kernel,rfl,by decide +kernel,by decide +kernel⟩
##HJ {kk:Nat} {g1 g2 g3 g4 g5 g6 g7 g8:Addr} {d1 d2 d3 d4 d5 d6 d7 d8:FuncData} (F:nU K "_law_papers" "_law_papers" jC f fd) (zA:aW P w K mg base dO kk g1 d1 ["_law_rows", "_law_number"] (eF K LL.cJ)) (zB:mg "_law_latest" = some (.ref g1)) (zC:PySem.W.keepIn K (.ref g1)=true) (zD:Binds K d1 ["_law_rows", "_law_number"] []) (yY:aW P w K mg base dO kk g2 d2 ["_law_order_here"] (eF K LL.gB)) (yZ:mg "_law_many" = some (.ref g2)) (y6:PySem.W.keepIn K (.ref g2)=true) (y7:Binds K d2 ["_law_order_here"] []) (QR:aW P w K mg base dO kk g3 d3 ["_law_rows", "_law_more"] (eF K LL.iZ)) (QS:mg "_law_moved" = some (.ref g3)) (QT:PySem.W.keepIn K (.ref g3)=true) (QU:Binds K d3 ["_law_rows", "_law_more"] []) (CF:aW P w K mg base dO kk g4 d4 ["_law_order_here", "_law_draws_here"] (eF K LL.fX)) (CG:mg "_law_paper" = some (.ref g4)) (CH:PySem.W.keepIn K (.ref g4)=true) (CI:Binds K d4 ["_law_order_here", "_law_draws_here"] []) (pO:aW P w K mg base dO kk g5 d5 ["_law_draws_here", "_law_n", "_law_thick"] (eF K LL.dM)) (pP:mg "_law_order" = some (.ref g5)) (pQ:PySem.W.keepIn K (.ref g5)=true) (pR:Binds K d5 ["_law_draws_here", "_law_n", "_law_thick"] []) (mR:aW P w K mg base dO kk g6 d6 ["_law_cell_here", "_law_many_here", "_law_salt"] (eF K LL.bX)) (mS:mg "_law_draws" = some (.ref g6)) (mT:PySem.W.keepIn K (.ref g6)=true) (mU:Binds K d6 ["_law_cell_here", "_law_many_here", "_law_salt"] []) (oW:aW P w K mg base dO kk g7 d7 ["_law_script", "_law_k"] (eF K LL.cM)) (oX:mg "_law_cell" = some (.ref g7)) (oY:PySem.W.keepIn K (.ref g7)=true) (oZ:Binds K d7 ["_law_script", "_law_k"] []) (QV:aW P w K mg base dO kk g8 d8 ["_law_script", "_law_k", "_law_salt"] (eF K LL.iY)) (QW:mg "_law_small" = some (.ref g8)) (QX:PySem.W.keepIn K (.ref g8)=true) (QY:Binds K d8 ["_law_script", "_law_k", "_law_salt"] []) (aT:mg "len" = none) (bN:mg "range" = none):aW P w K mg base dO (kk+1) f fd ["_law_script"] (eF K LL.i0):=by
 @jJ F u3 rfl rfl (fun cdv A outer s H E hr=>?_)
 have nd:=u3.nd
 !(bI (fC (i:=1) nd (cD QV hr QW QX QY (aF (x4 0) (aF i4 (aF i4 aL)))))
  (bI (fC (i:=2) nd (cD mR hr mS mT mU (aF (cD oW hr oX oY oZ (aF (x4 0) (aF i4 aL))) (aF i4 (aF i4 aL)))))
  (bI (fC (i:=3) nd (cD mR hr mS mT mU (aF (cD oW hr oX oY oZ (aF (x4 0) (aF i4 aL))) (aF i4 (aF i4 aL)))))
  (bI (fC (i:=4) nd (cD CF hr CG CH CI (aF (x4 1) (aF (x4 2) aL))))
  (bI (iI (x5 (lT (fG (x4 3) i4) i4) i4)
   (bI (fC (i:=5) nd (cD pO hr pP pQ pR (aF (iN (sl4 (x4 3) (po4 i4) (po4 i4)) (x4 2)) (aF (eU aT (aF (x4 1) aL)) (aF i4 aL)))))
   (aS (iI (aLY (iN (AA i4 (cD yY hr yZ y6 y7 (aF (x4 5) aL))) (eU aT (aF (x4 4) aL))) i4)
    (bI (fC (i:=6) nd (cD CF hr CG CH CI (aF (x4 5) (aF (x4 2) aL))))
    (aS (fC (i:=4) nd (iN (x4 6) (cD QR hr QS QT QU (aF (x4 4) (aF (eU aT (aF (x4 6) aL)) aL)))))))
    jS)))
   jS)
  (bI (VL (i:=7) (ls:=["_law_k"]) (fs:=["_law_rows", "_law_size"]) (fr:=[4,3]) nd rfl (fY bN (lT (fG (x4 3) i4) i4)) (fun _ _ _ _ _ _ nd=>jR (i:=0) nd §) (fun _ _ _ _ _ _=>uW) (fun _ _ _ _ _ _=>(fG (x4 1) (lT (iN (fG (x4 2) i4) (AA (x4 0) (fG (x4 2) i4))) (eU aT (aF (x4 1) aL))))))
  (bI (fC (i:=8) nd (fG (fG (x4 4) (JQ i4)) i4))
  (bI (iI (BX.pt (x8 (D4 (eU aT (aF (x4 8) aL)) i4) (x6 (x5 (lT (fG (x4 3) i4) i4) i4))))
   (aS (mL (yC (i:=7) (uC (fG (x4 4) (fG (x4 8) (iN i4 (lT (fG (x4 3) i4) i4))))))))
   jS)
  (bI (aAs (i:=4) nd (aAp (iN (sl4 (x4 4) no4 (po4 (JQ i4))) (x4 7)) (sl4 (x4 4) (po4 (JQ i4)) no4)))
  (bI (iI (BX.pt (x8 (D4 (eU aT (aF (x4 8) aL)) i4) (x6 (x5 (lT (O9 (fG (x4 3) i4) i4) i4) i4))))
   (aS (fC (i:=8) nd (qT (aF (fG (x4 8) i4) (aF (fG (x4 8) i4) (aF (cD zA hr zB zC zD (aF (x4 4) (aF (fG (x4 8) i4) aL))) (aF (cD zA hr zB zC zD (aF (x4 4) (aF (fG (x4 8) i4) aL))) aL)))))))
   jS)
  (aS (fP (qT (aF (x4 1) (aF (iN (sl4 (x4 4) no4 (po4 (JQ i4))) (pL.pe (pV (aF (qT (aF (fG (fG (x4 4) (JQ i4)) i4) (aF (x4 8) aL))) aL)))) aL)))))))))))))))
abbrev tH:Stmt:=top 38
##W0:bH ["_law_script", "_law_order_here", "_law_rows", "_law_found"] ["_law_script"] (aI tH):=⟨rfl,rfl,rfl,by decide +kernel,rfl,by decide +kernel,by decide +kernel⟩
##aDU {kk:Nat} {g1 g2:Addr} {d1 d2:FuncData} (F:nU K "law" "law" tH f fd) (EH:aW P w K mg base dO kk g1 d1 ["order", "rows"] (eF K LL.fW)) (EI:mg "shows_cuts" = some (.ref g1)) (EJ:PySem.W.keepIn K (.ref g1)=true) (EK:Binds K d1 ["order", "rows"] []) (KO:aW P w K mg base dO kk g2 d2 ["_law_script"] (eF K LL.i0)) (KP:mg "_law_papers" = some (.ref g2)) (KQ:PySem.W.keepIn K (.ref g2)=true) (KR:Binds K d2 ["_law_script"] []) (nJ:mg "isinstance" = none) (KS:mg "bool" = none) (d9:mg "tuple" = none):aW P w K mg base dO (kk+1) f fd ["_law_script"] (eF K rV):=by
 @jJ F W0 rfl rfl (fun cdv A outer s H E hr=>?_)
 have nd:=W0.nd
 !(bI (aAu (uC (cD KO hr KP KQ KR (aF (x4 0) aL))) (GO (i:=1) (j:=2) rfl nd))
  (bI (fC (i:=3) nd (cD EH hr EI EJ EK (aF (x4 1) (aF (oM d9 (aF (x4 2) aL)) aL))))
  (aS (fP (D5 (aLc Ty4.b nJ KS PyProof.Rows.boot_bool (x4 3)) (JP (x4 3)))))))
end
##nK:∀ (us:List Value),us.length=1 -> ∃ a0,us=[a0]
 | [a0],_=>⟨a0,rfl⟩
##iL:∀ (us:List Value),us.length=2 -> ∃ a0 a1,us=[a0,a1]
 | [a0,a1],_=>⟨a0,a1,rfl⟩
##jD:∀ (us:List Value),us.length=3 -> ∃ a0 a1 a2,us=[a0,a1,a2]
 | [a0,a1,a2],_=>⟨a0,a1,a2,rfl⟩
##all_mk {l:PySem.W.OpenLaw} {w:World} {K:PySem.W.Frag} {h:Heap} {mg:Str->Option Value} {fa f1 f2 f3 f4 f5 f6 f7 f8 f9 f10 f11 f12 f13 f14 f15 f16 f17 f18 f19 f20 f21 f22 f23 f24 f25 f26 f27 f28 f29:Addr} (X:K.In h) (G:h.Ns mainGlobals mg) (hfa:mg "law" = some (.ref fa))
  {od1 an1 od2 an2 od3 an3 od4 an4 od5 an5 od6 an6 od7 an7 od8 an8 od9 an9 aMD aME aMF aMG aMH aMI aMJ aMK aML aMM aMN aMO aMP aMQ aMR aMS aMT aMU aMV aMW aMX aMY aMZ aM0 aM1 aM2 aM3 aM4 aM5 aM6 aM7 aM8 aM9 aMa aMb aMc aMd aMe aMf aGn:Option Addr} {sl1 sl2 sl3 sl4 sl5 sl6 sl7 sl8 sl9 aMg aMh aMi aMj aMk aMl aMm aMn aMo aMp aMq aMr aMs aMt aMu aMv aMw aMx aMy aMz:Array (Option Value)}
  {oc1 kV1 dc1 pm1 cd1 ct1 oc2 kV2 dc2 pm2 cd2 ct2 oc3 kV3 dc3 pm3 cd3 ct3 oc4 kV4 dc4 pm4 cd4 ct4 oc5 kV5 dc5 pm5 cd5 ct5 oc6 kV6 dc6 pm6 cd6 ct6 oc7 kV7 dc7 pm7 cd7 ct7 oc8 kV8 dc8 pm8 cd8 ct8 oc9 kV9 dc9 pm9 cd9 ct9 aNA aNB aNC aND aGo aNE aNF aNG aNH aNI aGp aNJ aNK aNL aNM aNN aGq aNO aNP aNQ aNR aNS aGr aNT aNU aNV aNW aNX aGs aNY aNZ aN0 aN1 aN2 aGt aN3 aN4 aN5 aN6 aN7 aGu aN8 aN9 aNa aNb aNc aGv aNd aNe aNf aNg aNh aGw aNi aNj aNk aNl aNm aGx aNn aNo aNp aNq aNr aGy aNs aNt aNu aNv aNw aGz aNx aNy aNz aOA aOB aHA aOC aOD aOE aOF aOG aHB aOH aOI aOJ aOK aOL aHC aOM aON aOO aOP aOQ aHD aOR aOS aOT aOU aOV aHE aOW aOX aOY aOZ aO0 aHF aO1 aO2 aO3 aO4 aO5 aHG aO6 aO7 aHH aHI aHJ aDV aHK:Value}
  {lV:Tok}
  {oS mP kR:Addr}
  (a1:PySem.W.nsIn K mainGlobals "are_too_many" = some (some (.ref f1))) (l1:K.lookup f1=some ⟨oc1,od1,.func (PySem.W.fnOf "are_too_many" "are_too_many" (bM eQ) (bE eQ) (aI eQ) .none kV1 dc1 pm1 an1 cd1 ct1),sl1⟩) (c1:PySem.W.codeIn K cd1 "are_too_many" = true) (k1:PySem.W.keepIn K (.ref f1)=true)
  (a2:PySem.W.nsIn K mainGlobals "is_thing" = some (some (.ref f2))) (l2:K.lookup f2=some ⟨oc2,od2,.func (PySem.W.fnOf "is_thing" "is_thing" (bM i8) (bE i8) (aI i8) .none kV2 dc2 pm2 an2 cd2 ct2),sl2⟩) (c2:PySem.W.codeIn K cd2 "is_thing" = true) (k2:PySem.W.keepIn K (.ref f2)=true)
  (a3:PySem.W.nsIn K mainGlobals "is_rising" = some (some (.ref f3))) (l3:K.lookup f3=some ⟨oc3,od3,.func (PySem.W.fnOf "is_rising" "is_rising" (bM gZ) (bE gZ) (aI gZ) .none kV3 dc3 pm3 an3 cd3 ct3),sl3⟩) (c3:PySem.W.codeIn K cd3 "is_rising" = true) (k3:PySem.W.keepIn K (.ref f3)=true)
  (a4:PySem.W.nsIn K mainGlobals "has_all_below" = some (some (.ref f4))) (l4:K.lookup f4=some ⟨oc4,od4,.func (PySem.W.fnOf "has_all_below" "has_all_below" (bM eD) (bE eD) (aI eD) .none kV4 dc4 pm4 an4 cd4 ct4),sl4⟩) (c4:PySem.W.codeIn K cd4 "has_all_below" = true) (k4:PySem.W.keepIn K (.ref f4)=true)
  (a5:PySem.W.nsIn K mainGlobals "is_row" = some (some (.ref f5))) (l5:K.lookup f5=some ⟨oc5,od5,.func (PySem.W.fnOf "is_row" "is_row" (bM mO) (bE mO) (aI mO) .none kV5 dc5 pm5 an5 cd5 ct5),sl5⟩) (c5:PySem.W.codeIn K cd5 "is_row" = true) (k5:PySem.W.keepIn K (.ref f5)=true)
  (a6:PySem.W.nsIn K mainGlobals "is_order" = some (some (.ref f6))) (l6:K.lookup f6=some ⟨oc6,od6,.func (PySem.W.fnOf "is_order" "is_order" (bM i9) (bE i9) (aI i9) .none kV6 dc6 pm6 an6 cd6 ct6),sl6⟩) (c6:PySem.W.codeIn K cd6 "is_order" = true) (k6:PySem.W.keepIn K (.ref f6)=true)
  (a7:PySem.W.nsIn K mainGlobals "refuse_strangers" = some (some (.ref f7))) (l7:K.lookup f7=some ⟨oc7,od7,.func (PySem.W.fnOf "refuse_strangers" "refuse_strangers" (bM dB) (bE dB) (aI dB) .none kV7 dc7 pm7 an7 cd7 ct7),sl7⟩) (c7:PySem.W.codeIn K cd7 "refuse_strangers" = true) (k7:PySem.W.keepIn K (.ref f7)=true)
  (a8:PySem.W.nsIn K mainGlobals "put_under" = some (some (.ref f8))) (l8:K.lookup f8=some ⟨oc8,od8,.func (PySem.W.fnOf "put_under" "put_under" (bM hJ) (bE hJ) (aI hJ) .none kV8 dc8 pm8 an8 cd8 ct8),sl8⟩) (c8:PySem.W.codeIn K cd8 "put_under" = true) (k8:PySem.W.keepIn K (.ref f8)=true)
  (a9:PySem.W.nsIn K mainGlobals "are_loose" = some (some (.ref f9))) (l9:K.lookup f9=some ⟨oc9,od9,.func (PySem.W.fnOf "are_loose" "are_loose" (bM hV) (bE hV) (aI hV) .none kV9 dc9 pm9 an9 cd9 ct9),sl9⟩) (c9:PySem.W.codeIn K cd9 "are_loose" = true) (k9:PySem.W.keepIn K (.ref f9)=true)
  (a10:PySem.W.nsIn K mainGlobals "loose_pairs" = some (some (.ref f10))) (l10:K.lookup f10=some ⟨aNA,aMD,.func (PySem.W.fnOf "loose_pairs" "loose_pairs" (bM fJ) (bE fJ) (aI fJ) .none aNB aNC aND aME aGo aNE),aMg⟩) (c10:PySem.W.codeIn K aGo "loose_pairs" = true) (k10:PySem.W.keepIn K (.ref f10)=true)
  (a11:PySem.W.nsIn K mainGlobals "cut" = some (some (.ref f11))) (l11:K.lookup f11=some ⟨aNF,aMF,.func (PySem.W.fnOf "cut" "cut" (bM CA) (bE CA) (aI CA) .none aNG aNH aNI aMG aGp aNJ),aMh⟩) (c11:PySem.W.codeIn K aGp "cut" = true) (k11:PySem.W.keepIn K (.ref f11)=true)
  (a12:PySem.W.nsIn K mainGlobals "is_order_of" = some (some (.ref f12))) (l12:K.lookup f12=some ⟨aNK,aMH,.func (PySem.W.fnOf "is_order_of" "is_order_of" (bM fK) (bE fK) (aI fK) .none aNL aNM aNN aMI aGq aNO),aMi⟩) (c12:PySem.W.codeIn K aGq "is_order_of" = true) (k12:PySem.W.keepIn K (.ref f12)=true)
  (a13:PySem.W.nsIn K mainGlobals "are_loose_things" = some (some (.ref f13))) (l13:K.lookup f13=some ⟨aNP,aMJ,.func (PySem.W.fnOf "are_loose_things" "are_loose_things" (bM dC) (bE dC) (aI dC) .none aNQ aNR aNS aMK aGr aNT),aMj⟩) (c13:PySem.W.codeIn K aGr "are_loose_things" = true) (k13:PySem.W.keepIn K (.ref f13)=true)
  (a14:PySem.W.nsIn K mainGlobals "row_holds" = some (some (.ref f14))) (l14:K.lookup f14=some ⟨aNU,aML,.func (PySem.W.fnOf "row_holds" "row_holds" (bM fT) (bE fT) (aI fT) .none aNV aNW aNX aMM aGs aNY),aMk⟩) (c14:PySem.W.codeIn K aGs "row_holds" = true) (k14:PySem.W.keepIn K (.ref f14)=true)
  (a15:PySem.W.nsIn K mainGlobals "shows_cuts" = some (some (.ref f15))) (l15:K.lookup f15=some ⟨aNZ,aMN,.func (PySem.W.fnOf "shows_cuts" "shows_cuts" (bM fD) (bE fD) (aI fD) .none aN0 aN1 aN2 aMO aGt aN3),aMl⟩) (c15:PySem.W.codeIn K aGt "shows_cuts" = true) (k15:PySem.W.keepIn K (.ref f15)=true)
  (a16:PySem.W.nsIn K mainGlobals "_law_cell" = some (some (.ref f16))) (l16:K.lookup f16=some ⟨aN4,aMP,.func (PySem.W.fnOf "_law_cell" "_law_cell" (bM mQ) (bE mQ) (aI mQ) .none aN5 aN6 aN7 aMQ aGu aN8),aMm⟩) (c16:PySem.W.codeIn K aGu "_law_cell" = true) (k16:PySem.W.keepIn K (.ref f16)=true)
  (a17:PySem.W.nsIn K mainGlobals "_law_mixed" = some (some (.ref f17))) (l17:K.lookup f17=some ⟨aN9,aMR,.func (PySem.W.fnOf "_law_mixed" "_law_mixed" (bM j6) (bE j6) (aI j6) .none aNa aNb aNc aMS aGv aNd),aMn⟩) (c17:PySem.W.codeIn K aGv "_law_mixed" = true) (k17:PySem.W.keepIn K (.ref f17)=true)
  (a18:PySem.W.nsIn K mainGlobals "_law_draws" = some (some (.ref f18))) (l18:K.lookup f18=some ⟨aNe,aMT,.func (PySem.W.fnOf "_law_draws" "_law_draws" (bM j7) (bE j7) (aI j7) .none aNf aNg aNh aMU aGw aNi),aMo⟩) (c18:PySem.W.codeIn K aGw "_law_draws" = true) (k18:PySem.W.keepIn K (.ref f18)=true)
  (a19:PySem.W.nsIn K mainGlobals "_law_order" = some (some (.ref f19))) (l19:K.lookup f19=some ⟨aNj,aMV,.func (PySem.W.fnOf "_law_order" "_law_order" (bM jA) (bE jA) (aI jA) .none aNk aNl aNm aMW aGx aNn),aMp⟩) (c19:PySem.W.codeIn K aGx "_law_order" = true) (k19:PySem.W.keepIn K (.ref f19)=true)
  (a20:PySem.W.nsIn K mainGlobals "_law_loose" = some (some (.ref f20))) (l20:K.lookup f20=some ⟨aNo,aMX,.func (PySem.W.fnOf "_law_loose" "_law_loose" (bM j8) (bE j8) (aI j8) .none aNp aNq aNr aMY aGy aNs),aMq⟩) (c20:PySem.W.codeIn K aGy "_law_loose" = true) (k20:PySem.W.keepIn K (.ref f20)=true)
  (a21:PySem.W.nsIn K mainGlobals "_law_put" = some (some (.ref f21))) (l21:K.lookup f21=some ⟨aNt,aMZ,.func (PySem.W.fnOf "_law_put" "_law_put" (bM pN) (bE pN) (aI pN) .none aNu aNv aNw aM0 aGz aNx),aMr⟩) (c21:PySem.W.codeIn K aGz "_law_put" = true) (k21:PySem.W.keepIn K (.ref f21)=true)
  (a22:PySem.W.nsIn K mainGlobals "_law_paper" = some (some (.ref f22))) (l22:K.lookup f22=some ⟨aNy,aM1,.func (PySem.W.fnOf "_law_paper" "_law_paper" (bM jB) (bE jB) (aI jB) .none aNz aOA aOB aM2 aHA aOC),aMs⟩) (c22:PySem.W.codeIn K aHA "_law_paper" = true) (k22:PySem.W.keepIn K (.ref f22)=true)
  (a23:PySem.W.nsIn K mainGlobals "_law_masks" = some (some (.ref f23))) (l23:K.lookup f23=some ⟨aOD,aM3,.func (PySem.W.fnOf "_law_masks" "_law_masks" (bM j9) (bE j9) (aI j9) .none aOE aOF aOG aM4 aHB aOH),aMt⟩) (c23:PySem.W.codeIn K aHB "_law_masks" = true) (k23:PySem.W.keepIn K (.ref f23)=true)
  (a24:PySem.W.nsIn K mainGlobals "_law_many" = some (some (.ref f24))) (l24:K.lookup f24=some ⟨aOI,aM5,.func (PySem.W.fnOf "_law_many" "_law_many" (bM jO) (bE jO) (aI jO) .none aOJ aOK aOL aM6 aHC aOM),aMu⟩) (c24:PySem.W.codeIn K aHC "_law_many" = true) (k24:PySem.W.keepIn K (.ref f24)=true)
  (a25:PySem.W.nsIn K mainGlobals "_law_small" = some (some (.ref f25))) (l25:K.lookup f25=some ⟨aON,aM7,.func (PySem.W.fnOf "_law_small" "_law_small" (bM kB) (bE kB) (aI kB) .none aOO aOP aOQ aM8 aHD aOR),aMv⟩) (c25:PySem.W.codeIn K aHD "_law_small" = true) (k25:PySem.W.keepIn K (.ref f25)=true)
  (a26:PySem.W.nsIn K mainGlobals "_law_moved" = some (some (.ref f26))) (l26:K.lookup f26=some ⟨aOS,aM9,.func (PySem.W.fnOf "_law_moved" "_law_moved" (bM kC) (bE kC) (aI kC) .none aOT aOU aOV aMa aHE aOW),aMw⟩) (c26:PySem.W.codeIn K aHE "_law_moved" = true) (k26:PySem.W.keepIn K (.ref f26)=true)
  (a27:PySem.W.nsIn K mainGlobals "_law_latest" = some (some (.ref f27))) (l27:K.lookup f27=some ⟨aOX,aMb,.func (PySem.W.fnOf "_law_latest" "_law_latest" (bM gS) (bE gS) (aI gS) .none aOY aOZ aO0 aMc aHF aO1),aMx⟩) (c27:PySem.W.codeIn K aHF "_law_latest" = true) (k27:PySem.W.keepIn K (.ref f27)=true)
  (a28:PySem.W.nsIn K mainGlobals "_law_papers" = some (some (.ref f28))) (l28:K.lookup f28=some ⟨aO2,aMd,.func (PySem.W.fnOf "_law_papers" "_law_papers" (bM jC) (bE jC) (aI jC) .none aO3 aO4 aO5 aMe aHG aO6),aMy⟩) (c28:PySem.W.codeIn K aHG "_law_papers" = true) (k28:PySem.W.keepIn K (.ref f28)=true)
  (a29:PySem.W.nsIn K mainGlobals "law" = some (some (.ref f29))) (l29:K.lookup f29=some ⟨aO7,aMf,.func (PySem.W.fnOf "law" "law" (bM tH) (bE tH) (aI tH) .none aHH aHI aHJ aGn aDV aHK),aMz⟩) (c29:PySem.W.codeIn K aDV "law" = true) (k29:PySem.W.keepIn K (.ref f29)=true)
  (zE:PySem.W.nsIn K mainGlobals "Looped" = some (some (.ref oS)))
  (uI:PySem.W.nsIn K mainGlobals "NoThing" = some (some (.ref mP)))
  (rK:PySem.W.nsIn K mainGlobals "NotLoose" = some (some (.ref kR)))
  (zF:PySem.W.excIn K oS bmV "ValueError.__new__" = true)
  (uJ:PySem.W.excIn K mP bmV "ValueError.__new__" = true)
  (rL:PySem.W.excIn K kR bmV "ValueError.__new__" = true)
  (z1:PySem.W.nsIn K mainGlobals "enumerate" = some none) (z2:PySem.W.nsIn K mainGlobals "all" = some none) (z3:PySem.W.nsIn K mainGlobals "len" = some none) (z4:PySem.W.nsIn K mainGlobals "range" = some none) (z5:PySem.W.nsIn K mainGlobals "tuple" = some none) (z6:PySem.W.nsIn K mainGlobals "sorted" = some none) (z7:PySem.W.nsIn K mainGlobals "set" = some none) (z8:PySem.W.nsIn K mainGlobals "list" = some none) (z9:PySem.W.nsIn K mainGlobals "sum" = some none) (z10:PySem.W.nsIn K mainGlobals "max" = some none) (z11:PySem.W.nsIn K mainGlobals "isinstance" = some none) (z12:PySem.W.nsIn K mainGlobals "bool" = some none) (lX:PySem.W.nsIn K mainGlobals "MOST_THINGS" = some (some (.int 9 lV))) :
  ∃ fd:FuncData,(∀ (s:Shared) (v:Value),BindsTo s fd ⟨[v],[]⟩ [("_law_script",v)]) /\ ∀ base:Heap,K.In base->base.Ns mainGlobals mg->aW l.prog w K mg base dO 10 fa fd ["_law_script"] (eF K rV):=by
 have e:=hfa.symm.trans (PySem.W.mg_of X G a29)
 cases e
 have F1:=cN (st:=eQ) l1 c1 k1
 have F2:=cN (st:=i8) l2 c2 k2
 have F3:=cN (st:=gZ) l3 c3 k3
 have F4:=cN (st:=eD) l4 c4 k4
 have F5:=cN (st:=mO) l5 c5 k5
 have F6:=cN (st:=i9) l6 c6 k6
 have F7:=cN (st:=dB) l7 c7 k7
 have F8:=cN (st:=hJ) l8 c8 k8
 have F9:=cN (st:=hV) l9 c9 k9
 have F10:=cN (st:=fJ) l10 c10 k10
 have F11:=cN (st:=CA) l11 c11 k11
 have F12:=cN (st:=fK) l12 c12 k12
 have F13:=cN (st:=dC) l13 c13 k13
 have F14:=cN (st:=fT) l14 c14 k14
 have F15:=cN (st:=fD) l15 c15 k15
 have F16:=cN (st:=mQ) l16 c16 k16
 have F17:=cN (st:=j6) l17 c17 k17
 have F18:=cN (st:=j7) l18 c18 k18
 have F19:=cN (st:=jA) l19 c19 k19
 have F20:=cN (st:=j8) l20 c20 k20
 have F21:=cN (st:=pN) l21 c21 k21
 have F22:=cN (st:=jB) l22 c22 k22
 have F23:=cN (st:=j9) l23 c23 k23
 have F24:=cN (st:=jO) l24 c24 k24
 have F25:=cN (st:=kB) l25 c25 k25
 have F26:=cN (st:=kC) l26 c26 k26
 have F27:=cN (st:=gS) l27 c27 k27
 have F28:=cN (st:=jC) l28 c28 k28
 have F29:=cN (st:=tH) l29 c29 k29
 have b1:=F1.binds (ps:=["n"]) fun _ _ _ _ _ _ us hl=>by &⟨_,rfl⟩:=nK us hl; rfl
 have g1:=PySem.W.mg_of X G a1
 have b2:=F2.binds (ps:=["number", "n"]) fun _ _ _ _ _ _ us hl=>by &⟨_,_,rfl⟩:=iL us hl; rfl
 have g2:=PySem.W.mg_of X G a2
 have b3:=F3.binds (ps:=["things", "n"]) fun _ _ _ _ _ _ us hl=>by &⟨_,_,rfl⟩:=iL us hl; rfl
 have g3:=PySem.W.mg_of X G a3
 have b4:=F4.binds (ps:=["rows", "row"]) fun _ _ _ _ _ _ us hl=>by &⟨_,_,rfl⟩:=iL us hl; rfl
 have g4:=PySem.W.mg_of X G a4
 have b5:=F5.binds (ps:=["rows", "b"]) fun _ _ _ _ _ _ us hl=>by &⟨_,_,rfl⟩:=iL us hl; rfl
 have g5:=PySem.W.mg_of X G a5
 have b6:=F6.binds (ps:=["rows"]) fun _ _ _ _ _ _ us hl=>by &⟨_,rfl⟩:=nK us hl; rfl
 have g6:=PySem.W.mg_of X G a6
 have b7:=F7.binds (ps:=["n", "a", "b"]) fun _ _ _ _ _ _ us hl=>by &⟨_,_,_,rfl⟩:=jD us hl; rfl
 have g7:=PySem.W.mg_of X G a7
 have b8:=F8.binds (ps:=["order", "a", "b"]) fun _ _ _ _ _ _ us hl=>by &⟨_,_,_,rfl⟩:=jD us hl; rfl
 have g8:=PySem.W.mg_of X G a8
 have b9:=F9.binds (ps:=["order", "a", "b"]) fun _ _ _ _ _ _ us hl=>by &⟨_,_,_,rfl⟩:=jD us hl; rfl
 have g9:=PySem.W.mg_of X G a9
 have b10:=F10.binds (ps:=["order"]) fun _ _ _ _ _ _ us hl=>by &⟨_,rfl⟩:=nK us hl; rfl
 have g10:=PySem.W.mg_of X G a10
 have b11:=F11.binds (ps:=["order", "a", "b"]) fun _ _ _ _ _ _ us hl=>by &⟨_,_,_,rfl⟩:=jD us hl; rfl
 have g11:=PySem.W.mg_of X G a11
 have b12:=F12.binds (ps:=["rows", "n"]) fun _ _ _ _ _ _ us hl=>by &⟨_,_,rfl⟩:=iL us hl; rfl
 have g12:=PySem.W.mg_of X G a12
 have b13:=F13.binds (ps:=["order", "a", "b"]) fun _ _ _ _ _ _ us hl=>by &⟨_,_,_,rfl⟩:=jD us hl; rfl
 have g13:=PySem.W.mg_of X G a13
 have b14:=F14.binds (ps:=["rows", "number"]) fun _ _ _ _ _ _ us hl=>by &⟨_,_,rfl⟩:=iL us hl; rfl
 have g14:=PySem.W.mg_of X G a14
 have b15:=F15.binds (ps:=["order", "rows"]) fun _ _ _ _ _ _ us hl=>by &⟨_,_,rfl⟩:=iL us hl; rfl
 have g15:=PySem.W.mg_of X G a15
 have b16:=F16.binds (ps:=["_law_script", "_law_k"]) fun _ _ _ _ _ _ us hl=>by &⟨_,_,rfl⟩:=iL us hl; rfl
 have g16:=PySem.W.mg_of X G a16
 have b17:=F17.binds (ps:=["_law_cell_here", "_law_k", "_law_salt"]) fun _ _ _ _ _ _ us hl=>by &⟨_,_,_,rfl⟩:=jD us hl; rfl
 have g17:=PySem.W.mg_of X G a17
 have b18:=F18.binds (ps:=["_law_cell_here", "_law_many_here", "_law_salt"]) fun _ _ _ _ _ _ us hl=>by &⟨_,_,_,rfl⟩:=jD us hl; rfl
 have g18:=PySem.W.mg_of X G a18
 have b19:=F19.binds (ps:=["_law_draws_here", "_law_n", "_law_thick"]) fun _ _ _ _ _ _ us hl=>by &⟨_,_,_,rfl⟩:=jD us hl; rfl
 have g19:=PySem.W.mg_of X G a19
 have b20:=F20.binds (ps:=["_law_order_here"]) fun _ _ _ _ _ _ us hl=>by &⟨_,rfl⟩:=nK us hl; rfl
 have g20:=PySem.W.mg_of X G a20
 have b21:=F21.binds (ps:=["_law_order_here", "_law_a", "_law_b"]) fun _ _ _ _ _ _ us hl=>by &⟨_,_,_,rfl⟩:=jD us hl; rfl
 have g21:=PySem.W.mg_of X G a21
 have b22:=F22.binds (ps:=["_law_order_here", "_law_draws_here"]) fun _ _ _ _ _ _ us hl=>by &⟨_,_,rfl⟩:=iL us hl; rfl
 have g22:=PySem.W.mg_of X G a22
 have b23:=F23.binds (ps:=["_law_order_here"]) fun _ _ _ _ _ _ us hl=>by &⟨_,rfl⟩:=nK us hl; rfl
 have g23:=PySem.W.mg_of X G a23
 have b24:=F24.binds (ps:=["_law_order_here"]) fun _ _ _ _ _ _ us hl=>by &⟨_,rfl⟩:=nK us hl; rfl
 have g24:=PySem.W.mg_of X G a24
 have b25:=F25.binds (ps:=["_law_script", "_law_k", "_law_salt"]) fun _ _ _ _ _ _ us hl=>by &⟨_,_,_,rfl⟩:=jD us hl; rfl
 have g25:=PySem.W.mg_of X G a25
 have b26:=F26.binds (ps:=["_law_rows", "_law_more"]) fun _ _ _ _ _ _ us hl=>by &⟨_,_,rfl⟩:=iL us hl; rfl
 have g26:=PySem.W.mg_of X G a26
 have b27:=F27.binds (ps:=["_law_rows", "_law_number"]) fun _ _ _ _ _ _ us hl=>by &⟨_,_,rfl⟩:=iL us hl; rfl
 have g27:=PySem.W.mg_of X G a27
 have b28:=F28.binds (ps:=["_law_script"]) fun _ _ _ _ _ _ us hl=>by &⟨_,rfl⟩:=nK us hl; rfl
 have g28:=PySem.W.mg_of X G a28
 have eG:=PySem.W.mg_none_of X G z1
 have sZ:=PySem.W.mg_none_of X G z2
 have aT:=PySem.W.mg_none_of X G z3
 have bN:=PySem.W.mg_none_of X G z4
 have d9:=PySem.W.mg_none_of X G z5
 have iK:=PySem.W.mg_none_of X G z6
 have WV:=PySem.W.mg_none_of X G z7
 have rJ:=PySem.W.mg_none_of X G z8
 have CC:=PySem.W.mg_none_of X G z9
 have WZ:=PySem.W.mg_none_of X G z10
 have nJ:=PySem.W.mg_none_of X G z11
 have KS:=PySem.W.mg_none_of X G z12
 have lW:=PySem.W.mg_of X G lX
 have yN:=PySem.W.mg_of X G zE
 have uG:=PySem.W.mg_of X G uI
 have rC:=PySem.W.mg_of X G rK
 have yO:=D8 zF
 have uH:=D8 uJ
 have rD:=D8 rL
 @⟨PySem.W.fnOf "law" "law" (bM tH) (bE tH) (aI tH) .none aHH aHI aHJ aGn aDV aHK,fun s v=>.of_eq rfl,fun base _ _=>?_⟩
 have o1:aW l.prog w K mg base dO 4 f1 _ _ (eF K LL.eP):=vI (kk:=3) F1 lW
 have o2:aW l.prog w K mg base dO 4 f2 _ _ (eF K LL.dA):=G7 (kk:=3) F2 
 have o3:aW l.prog w K mg base dO 5 f3 _ _ (eF K LL.gW):=EC (kk:=4) F3 (o2.mono §) g2 k2 b2 eG
 have o4:aW l.prog w K mg base dO 4 f4 _ _ (eF K LL.eB):=uF (kk:=3) F4 sZ
 have o5:aW l.prog w K mg base dO 6 f5 _ _ (eF K LL.mG):=QC (kk:=5) F5 (o4.mono §) g4 k4 b4 (o3.mono §) g3 k3 b3 aT
 have o6:aW l.prog w K mg base dO 7 f6 _ _ (eF K LL.iW):=HC (kk:=6) F6 (o5.mono §) g5 k5 b5 (o1.mono §) g1 k1 b1 aT bN sZ
 have o7:aW l.prog w K mg base (zK l.prog w) 5 f7 _ _ (M0 K mg LL.bA):=pX (kk:=4) F7 (o2.mono §) g2 k2 b2 uG uH
 have o8:aW l.prog w K mg base (zK l.prog w) 6 f8 _ _ (M0 K mg LL.eW):=ED (kk:=5) F8 (o7.mono §) g7 k7 b7 yN yO d9 eG iK WV aT
 have o9:aW l.prog w K mg base dO 4 f9 _ _ (eF K LL.cK):=EE (kk:=3) F9 
 have o10:aW l.prog w K mg base dO 5 f10 _ _ (eF K LL.fH):=yP (kk:=4) F10 (o9.mono §) g9 k9 b9 d9 aT bN
 have o11:aW l.prog w K mg base (zK l.prog w) 7 f11 _ _ (M0 K mg LL.BB):=aDT (kk:=6) F11 (o8.mono §) g8 k8 b8 (o9.mono §) g9 k9 b9 (o7.mono §) g7 k7 b7 rC rD aT
 have o12:aW l.prog w K mg base dO 8 f12 _ _ (eF K LL.gC):=yQ (kk:=7) F12 (o6.mono §) g6 k6 b6 aT
 have o13:aW l.prog w K mg base dO 5 f13 _ _ (eF K LL.dR):=pZ (kk:=4) F13 (o9.mono §) g9 k9 b9 (o2.mono §) g2 k2 b2 aT
 have o14:aW l.prog w K mg base dO 8 f14 _ _ (eF K LL.gX):=EG (kk:=7) F14 (o11.mono §) g11 k11 b11 (o13.mono §) g13 k13 b13 (o10.mono §) g10 k10 b10 aT
 have o15:aW l.prog w K mg base dO 9 f15 _ _ (eF K LL.fW):=AI (kk:=8) F15 (o14.mono §) g14 k14 b14 (o12.mono §) g12 k12 b12 eG aT sZ
 have o16:aW l.prog w K mg base dO 4 f16 _ _ (eF K LL.cM):=QD (kk:=3) F16 aT
 have o17:aW l.prog w K mg base dO 4 f17 _ _ (eF K LL.fU):=KF (kk:=3) F17 
 have o18:aW l.prog w K mg base dO 5 f18 _ _ (eF K LL.bX):=KG (kk:=4) F18 (o17.mono §) g17 k17 b17 bN
 have o19:aW l.prog w K mg base dO 4 f19 _ _ (eF K LL.dM):=KH (kk:=3) F19 bN iK d9 aT rJ
 have o20:aW l.prog w K mg base dO 4 f20 _ _ (eF K LL.iX):=KI (kk:=3) F20 aT bN
 have o21:aW l.prog w K mg base dO 4 f21 _ _ (eF K LL.jZ):=WY (kk:=3) F21 d9 aT bN iK rJ
 have o22:aW l.prog w K mg base dO 5 f22 _ _ (eF K LL.fX):=KJ (kk:=4) F22 (o21.mono §) g21 k21 b21 (o20.mono §) g20 k20 b20 aT CC
 have o23:aW l.prog w K mg base dO 4 f23 _ _ (eF K LL.iU):=KL (kk:=3) F23 CC
 have o24:aW l.prog w K mg base dO 5 f24 _ _ (eF K LL.gB):=QM (kk:=4) F24 (o23.mono §) g23 k23 b23 aT bN
 have o25:aW l.prog w K mg base dO 6 f25 _ _ (eF K LL.iY):=KM (kk:=5) F25 (o24.mono §) g24 k24 b24 (o19.mono §) g19 k19 b19 (o18.mono §) g18 k18 b18 (o16.mono §) g16 k16 b16
 have o26:aW l.prog w K mg base dO 4 f26 _ _ (eF K LL.iZ):=KN (kk:=3) F26 aT
 have o27:aW l.prog w K mg base dO 4 f27 _ _ (eF K LL.cJ):=HI (kk:=3) F27 aT bN WZ
 have o28:aW l.prog w K mg base dO 7 f28 _ _ (eF K LL.i0):=HJ (kk:=6) F28 (o27.mono §) g27 k27 b27 (o24.mono §) g24 k24 b24 (o26.mono §) g26 k26 b26 (o22.mono §) g22 k22 b22 (o19.mono §) g19 k19 b19 (o18.mono §) g18 k18 b18 (o16.mono §) g16 k16 b16 (o25.mono §) g25 k25 b25 aT bN
 !aDU (kk:=9) F29 (o15.mono §) g15 k15 b15 (o28.mono §) g28 k28 b28 nJ KS d9
##aDW {K:PySem.W.Frag} {H:Hp} {a:Addr} {ns:List Int} (o:Only H) (h:gH K H a (ns.map V.int)):Scr K H a ns:=by
 rcases h with h | h
 ·rcases h with h | ⟨b,h⟩
  ·rcases o a with z | ⟨_,_,z⟩<;>rw [z] at h<;>cases h
  ·!.inl ⟨b,h⟩
 ·!.inr (.inr h)
##walk {l:PySem.W.OpenLaw} {q:Program} {loose:List Str} {XP:(Str->Option Value)->Heap->Prop} {YP:World->Heap->Prop} {d:DefRec} {K:Params->PySem.W.Frag} (hn:l.most=some 63) (hdf:d.params.defaults=[])
  (hY:∀ (w:World) (h:Heap),YP w h->(K w.params).In h)
  (F:∀ (w:World) (mg:Str->Option Value) (fa:Addr) (h:Heap),(K w.params).In h->h.Ns mainGlobals mg->mg d.name=some (.ref fa) ->
   ∃ fd:FuncData,(∀ (s:Shared) (u:Value),BindsTo s fd ⟨[u],[]⟩ [("_law_script",u)]) /\ ∀ base:Heap,(K w.params).In base->base.Ns mainGlobals mg->aW l.prog w (K w.params) mg base dO 10 fa fd ["_law_script"] (eF (K w.params) rV)) :
  PySem.W.WalkO q loose XP YP l.row.toRowW d [] (fun f vs=>PySem.call f vs) :=
 L2.ZA (n:=63) (k:=10) (x := "_law_script") (CX:=fun _=>dO) (sp:=fun w=>eF (K w.params) rV) hn § hdf ⟨rfl,by decide,by decide⟩ hY F
  (fun _ H a ns hl o hS=>⟨fun a=>H a=none,[.jW ns],fun d=>d=.bl true,fun _ h=>h,⟨_,_,rfl,⟨a,rfl,aDW o hS⟩,rfl⟩,⟨_,TB ns hl,rfl⟩,fun v H' d _ hd e=>by subst e; !hd⟩) fun _ _ _ _ _ z=>z
end K32
open PySem PySem.W PyProof.Rows
end
noncomputable def PySem.W.Fast.tw13619119781634710855 := 0
noncomputable def PySem.W.Fast.tw15192600738534518797 := 0
noncomputable def PySem.W.Fast.tw3389126591970884771 := 0
noncomputable def PySem.W.Fast.tw191558588172286193 := 0
noncomputable def PySem.W.Fast.tw11108647741870352586 := 0
noncomputable def PySem.W.Fast.tw11556818277148442812 := 0
noncomputable def PySem.W.Fast.tw16296056884498412230 := 0
noncomputable def PySem.W.Fast.tw18395439320061124558 := 0
noncomputable def PySem.W.Fast.tw839497266112067246 := 0
noncomputable def PySem.W.Fast.tw10053217726382707392 := 0
set_option maxRecDepth 100000 in
set_option maxHeartbeats 0 in
theorem PySem.Challenge.cw_risecount_k32_looker_right_holds : PySem.Challenge.rw_risecount_k32_looker_right.Holds := by
 w_on; o_law; k_head; (case hw=>w_witness2)
 k_fill
 refine K32.walk (l := PySem.Challenge.rw_risecount_k32_looker_right) rfl rfl (fun w h Y => PySem.W.kIn_of Y) ?F
 case F =>
  intro w mg fa h KX G hmg
  refine' K32.all_mk KX G hmg ?a1 ?l1 ?c1 ?k1 ?a2 ?l2 ?c2 ?k2 ?a3 ?l3 ?c3 ?k3 ?a4 ?l4 ?c4 ?k4 ?a5 ?l5 ?c5 ?k5 ?a6 ?l6 ?c6 ?k6 ?a7 ?l7 ?c7 ?k7 ?a8 ?l8 ?c8 ?k8 ?a9 ?l9 ?c9 ?k9 ?a10 ?l10 ?c10 ?k10 ?a11 ?l11 ?c11 ?k11 ?a12 ?l12 ?c12 ?k12 ?a13 ?l13 ?c13 ?k13 ?a14 ?l14 ?c14 ?k14 ?a15 ?l15 ?c15 ?k15 ?a16 ?l16 ?c16 ?k16 ?a17 ?l17 ?c17 ?k17 ?a18 ?l18 ?c18 ?k18 ?a19 ?l19 ?c19 ?k19 ?a20 ?l20 ?c20 ?k20 ?a21 ?l21 ?c21 ?k21 ?a22 ?l22 ?c22 ?k22 ?a23 ?l23 ?c23 ?k23 ?a24 ?l24 ?c24 ?k24 ?a25 ?l25 ?c25 ?k25 ?a26 ?l26 ?c26 ?k26 ?a27 ?l27 ?c27 ?k27 ?a28 ?l28 ?c28 ?k28 ?a29 ?l29 ?c29 ?k29 ?zE ?uI ?rK ?zF ?uJ ?rL ?z1 ?z2 ?z3 ?z4 ?z5 ?z6 ?z7 ?z8 ?z9 ?z10 ?z11 ?z12 ?lX
  (case a1=>k_is); (case l1=>k_is); (case c1=>k_is); (case k1=>k_is)
  (case a2=>k_is); (case l2=>k_is); (case c2=>k_is); (case k2=>k_is)
  (case a3=>k_is); (case l3=>k_is); (case c3=>k_is); (case k3=>k_is)
  (case a4=>k_is); (case l4=>k_is); (case c4=>k_is); (case k4=>k_is)
  (case a5=>k_is); (case l5=>k_is); (case c5=>k_is); (case k5=>k_is)
  (case a6=>k_is); (case l6=>k_is); (case c6=>k_is); (case k6=>k_is)
  (case a7=>k_is); (case l7=>k_is); (case c7=>k_is); (case k7=>k_is)
  (case a8=>k_is); (case l8=>k_is); (case c8=>k_is); (case k8=>k_is)
  (case a9=>k_is); (case l9=>k_is); (case c9=>k_is); (case k9=>k_is)
  (case a10=>k_is); (case l10=>k_is); (case c10=>k_is); (case k10=>k_is)
  (case a11=>k_is); (case l11=>k_is); (case c11=>k_is); (case k11=>k_is)
  (case a12=>k_is); (case l12=>k_is); (case c12=>k_is); (case k12=>k_is)
  (case a13=>k_is); (case l13=>k_is); (case c13=>k_is); (case k13=>k_is)
  (case a14=>k_is); (case l14=>k_is); (case c14=>k_is); (case k14=>k_is)
  (case a15=>k_is); (case l15=>k_is); (case c15=>k_is); (case k15=>k_is)
  (case a16=>k_is); (case l16=>k_is); (case c16=>k_is); (case k16=>k_is)
  (case a17=>k_is); (case l17=>k_is); (case c17=>k_is); (case k17=>k_is)
  (case a18=>k_is); (case l18=>k_is); (case c18=>k_is); (case k18=>k_is)
  (case a19=>k_is); (case l19=>k_is); (case c19=>k_is); (case k19=>k_is)
  (case a20=>k_is); (case l20=>k_is); (case c20=>k_is); (case k20=>k_is)
  (case a21=>k_is); (case l21=>k_is); (case c21=>k_is); (case k21=>k_is)
  (case a22=>k_is); (case l22=>k_is); (case c22=>k_is); (case k22=>k_is)
  (case a23=>k_is); (case l23=>k_is); (case c23=>k_is); (case k23=>k_is)
  (case a24=>k_is); (case l24=>k_is); (case c24=>k_is); (case k24=>k_is)
  (case a25=>k_is); (case l25=>k_is); (case c25=>k_is); (case k25=>k_is)
  (case a26=>k_is); (case l26=>k_is); (case c26=>k_is); (case k26=>k_is)
  (case a27=>k_is); (case l27=>k_is); (case c27=>k_is); (case k27=>k_is)
  (case a28=>k_is); (case l28=>k_is); (case c28=>k_is); (case k28=>k_is)
  (case a29=>k_is); (case l29=>k_is); (case c29=>k_is); (case k29=>k_is)
  (case zE=>k_is)
  (case uI=>k_is)
  (case rK=>k_is)
  (case zF=>k_exc)
  (case uJ=>k_exc)
  (case rL=>k_exc)
  (case z1=>k_is)
  (case z2=>k_is)
  (case z3=>k_is)
  (case z4=>k_is)
  (case z5=>k_is)
  (case z6=>k_is)
  (case z7=>k_is)
  (case z8=>k_is)
  (case z9=>k_is)
  (case z10=>k_is)
  (case z11=>k_is)
  (case z12=>k_is)
  (case lX=>k_is)
end
