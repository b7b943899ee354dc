import PyProof.Rows.All
import PySem.Str
import PySem.Sem
import PyProof.StrBlockL
import PyProof.Rows.Walk
import Wide.All
import OpenK.AllK
import Wide.FinOn
import Lean
import PyProof.EqAt
import PyProof.EqKinds
import PyProof.TupleCall
import PyProof.SeqRoads2
import PyProof.ExcArgs
import KE.KIsAll
import PyProof.DictIter
import PyProof.Rows.CountFlat
import PyProof.NeKinds
import KE.KSortKey
import KE.KMinKey
import PySem.Challenge.RW_risecount_k26_pieces
set_option Elab.async false
set_option linter.all false
set_option maxRecDepth 100000
set_option maxHeartbeats 3999999
set_option genSizeOf false
noncomputable section
open List (all_cons all_eq_true any_cons append_nil cons_append contains_eq_mem drop_zero ext_getElem? filterMap_cons filter_append filter_congr filter_cons filter_sublist find?_cons flatten_cons foldl_cons forIn_cons forIn_nil getD_eq_getElem?_getD getElem?_append_left getElem?_append_right getElem?_cons_succ getElem?_eq_getElem getElem?_eq_none getElem?_map getElem?_range getElem?_replicate getElem?_set_ne getElem?_set_self getElem_mem getElem_of_mem length_cons length_drop length_filter_le length_map length_nil length_range length_replicate length_set length_take lookup_cons map_append map_congr_left map_cons map_map map_nil mem_append mem_append_left mem_append_right mem_cons mem_cons_of_mem mem_cons_self mem_filter mem_map mem_map_of_mem mem_of_getElem? mem_singleton nil_append nodup_append nodup_nil not_mem_nil of_mem_zip pairwise_lt_range pairwise_map replicate_succ size_toArray sum_cons take_add_one take_of_length_le)
section
namespace L3
open PySem
inductive D where
 | non
 | bl (b:Bool)
 | int (i:Int)
 | str (x:Str)
 | tup (xs:List D)
 | lst (xs:List D)
 | kZ (ns:List Int)
 | kA (ks:List (Sum Int Str)) (xs:List D)
 | eD (q:Nat->Obj->Prop) (ks:List (Sum (Sum Int Str) (List (Sum (Sum Int Str) (List (Sum Int Str)))))) (xs:List D)
 | exc (c:Str) (a:Nat)
mutual
noncomputable def D.AB:D->Bool
 | .non=>true
 | .bl _=>true
 | .int _=>true
 | .str _=>true
 | .tup ds=>qZ ds
 | .lst _=>false
 | .kZ _=>true
 | .kA _ _=>false
 | .eD _ _ _=>false
 | .exc _ _=>true
noncomputable def qZ:List D->Bool
 | []=>true
 | d::ds=>d.AB&&qZ ds
end
noncomputable abbrev cJ:=List (Option D)
inductive Sv where
 | no
 | ro (d:D)
 | ow (d:D)
noncomputable abbrev aS:=List Sv
noncomputable def Sv.all:Sv->Option D
 | .no=>none
 | .ro d=>some d
 | .ow d=>some d
noncomputable def Sv.rd:Sv->Option D
 | .ro d=>some d
 | _=>none
noncomputable def bU(ρ:aS):cJ:=ρ.map Sv.all
noncomputable def kC(ρ:aS):cJ:=ρ.map Sv.rd
end L3
namespace L4
open PySem L3
inductive M (α:Type) where
 | no
 | ex (c:Str)
 | ok (a:α)
inductive Out where
 | no
 | nx (ρ:aS)
 | rt (d:D)
 | ex (c:Str)
noncomputable abbrev EF:=cJ->Option D
noncomputable abbrev TF:=cJ->Option Bool
noncomputable abbrev AF:=cJ->Option (List D)
noncomputable abbrev XF:=aS->Option (aS×D)
noncomputable abbrev SF:=aS->Out
noncomputable abbrev gD:=List D->M D
noncomputable def pE:Nat:=16777216
noncomputable def aB(i:Nat):EF:=λρ=>(ρ[i]?).join
noncomputable def eC(d:D):EF:=λ_=>some d
noncomputable def aE(g:D->D->Option D)(a b:EF):EF:=λρ=>(a ρ).bind λx=>(b ρ).bind λy=>g x y
noncomputable def nE:D->Option Bool
 | .bl b=>some b
 | .lst ds=>some (!ds.isEmpty)
 | .tup ds=>some (!ds.isEmpty)
 | _=>none
noncomputable def tV(f:EF):TF:=λρ=>(f ρ).bind nE
noncomputable def iZ(t:TF):TF:=λρ=>(t ρ).map (!·)
noncomputable def uY(t u:TF):TF:=λρ=>(t ρ).bind λb=>if b=true then u ρ else some false
noncomputable def zF(t u:TF):TF:=λρ=>(t ρ).bind λb=>if b=true then some true else u ρ
noncomputable def uE:D->Option Bool
 | .bl b=>some b
 | _=>none
noncomputable def mY(a b:EF):EF:=λρ=>(a ρ).bind λx=>(uE x).bind λc=>if c=true then b ρ else some (.bl false)
noncomputable def Z8(a b:EF):EF:=λρ=>(a ρ).bind λx=>(uE x).bind λc=>if c=true then some (.bl true) else b ρ
noncomputable def zG(a:EF):EF:=λρ=>(a ρ).bind λx=>(uE x).map λc=>.bl (!c)
noncomputable def QV(t:TF)(a b:EF):EF:=λρ=>(t ρ).bind λc=>if c=true then a ρ else b ρ
noncomputable def W8:D->Option D
 | .int i=>some (.int (-i))
 | _=>none
noncomputable def EE(a:EF):EF:=λρ=>(a ρ).bind W8
noncomputable def G9(f g:D->D->Option D)(a b c:EF):EF:=λρ=>(a ρ).bind λx=>(b ρ).bind λy=>(f x y).bind λz=>(uE z).bind λk=>if k=true then (c ρ).bind λw=>g y w else some (.bl false)
noncomputable def HA(g:Int->Int->D):D->D->Option D
 | .int i,.int j=>some (g i j)
 | _,_=>none
noncomputable def pQ(c:Int->Int->Bool)(g:Int->Int->D):D->D->Option D
 | .int i,.int j=>if c i j=true then some (g i j) else none
 | _,_=>none
noncomputable def dB:D->D->Option D
 | .int i,.int j=>some (.int (i+j))
 | .lst a,.lst b=>if a.length+b.length<=pE then some (.lst (a++b)) else none
 | .tup a,.tup b=>if a.length+b.length<=pE then some (.tup (a++b)) else none
 | .str a,.str b=>if a.length+b.length<=pE then some (.str (a++b)) else none
 | _,_=>none
noncomputable def fA:D->D->Option D:=HA λi j=>.int (i - j)
noncomputable def wH(i j:Int):Bool:=decide (i.natAbs<18446744073709551616)||decide (j.natAbs<18446744073709551616)||decide (i.natAbs.log2+j.natAbs.log2<=134217700)
noncomputable def mulM:D->D->Option D:=pQ wH λi j=>.int (i*j)
noncomputable def iN:D->D->Option D:=pQ (λ_ j=>decide (0<j)) λi j=>.int (i % j)
noncomputable def uZ:D->D->Option D:=pQ (λ_ j=>decide (0<j)&&decide (j.natAbs<1073741824)) λi j=>.int (i / j)
noncomputable def pX:D->D->Option D:=pQ (λi j=>decide (0<=j)&&decide (j.natAbs<=1000000)&&decide (i.natAbs<18446744073709551616)) λi j=>.int (i ^ j.toNat)
noncomputable def ltM:D->D->Option D:=HA λi j=>.bl (decide (i<j))
noncomputable def leM:D->D->Option D:=HA λi j=>.bl (decide (i<=j))
noncomputable def J8:D->D->Option D:=HA λi j=>.bl (decide (j<i))
noncomputable def geM:D->D->Option D:=HA λi j=>.bl (decide (j<=i))
noncomputable def Z9:D->D->Option Bool
 | .int i,.int j=>some (decide (i=j))
 | .bl i,.bl j=>some (decide (i=j))
 | .str i,.str j=>some (decide (i=j))
 | .non,.non=>some true
 | _,_=>none
noncomputable def wJ:D->D->Option D:=λx y=>(Z9 x y).map .bl
noncomputable def MV:D->D->Option D:=λx y=>(Z9 x y).map λb=>.bl (!b)
noncomputable def wK:D->Bool
 | .non=>true
 | _=>false
noncomputable def W9:D->D->Option D:=λx y=>if wK y=true then some (.bl (wK x)) else none
noncomputable def intsOf:List D->Option (List Int)
 | []=>some []
 | .int i::ds=>(intsOf ds).map (i :: ·)
 | _::_=>none
noncomputable def oP(neg:Bool):D->D->Option D
 | .int i,.tup ds=>(intsOf ds).map λns=>.bl (if neg then !ns.contains i else ns.contains i)
 | .int i,.lst ds=>(intsOf ds).map λns=>.bl (if neg then !ns.contains i else ns.contains i)
 | _,_=>none
noncomputable def MW(n:Nat)(i:Int):Option Nat:=if 0<=i then (if i<n then some i.toNat else none) else if -(n:Int)<=i then some (i+n).toNat else none
noncomputable def zH{α:Type}(xs:List α)(i:Int):Option α:=(MW xs.length i).bind λj=>xs[j]?
noncomputable def eE:D->D->Option D
 | .lst a,.int i=>zH a i
 | .tup a,.int i=>zH a i
 | .kZ a,.int i=>(zH a i).map D.int
 | _,_=>none
noncomputable def wL:D->Option (Sum Int Str)
 | .int i=>some (.inl i)
 | .str x=>some (.inr x)
 | _=>none
noncomputable def kD(ks:List (Sum Int Str))(ds:List D)(k:Sum Int Str):Option D:=((ks.zip ds).find? λkv=>decide (kv.1=k)).map (·.2)
noncomputable def wM:D->D->Option D
 | .kA ks ds,d=>(wL d).bind λk=>kD ks ds k
 | _,_=>none
noncomputable def aC:AF:=λ_=>some []
noncomputable def aA(a:EF)(t:AF):AF:=λρ=>(a ρ).bind λd=>(t ρ).bind λds=>some (d::ds)
noncomputable def lA(t:AF):EF:=λρ=>(t ρ).bind λds=>if ds.length<=pE then some (.tup ds) else none
noncomputable def eM(t:AF):EF:=λρ=>(t ρ).bind λds=>if ds.length<=pE then some (.lst ds) else none
noncomputable def cN(g:List D->Option D)(t:AF):EF:=λρ=>(t ρ).bind g
noncomputable def EG:M D->Option D
 | .ok d=>some d
 | _=>none
noncomputable def aI(R:gD)(t:AF):EF:=λρ=>(t ρ).bind λds=>EG (R ds)
noncomputable def cR:List D->Option D
 | [.lst a]=>some (.int a.length)
 | [.tup a]=>some (.int a.length)
 | [.kZ a]=>some (.int a.length)
 | _=>none
noncomputable def cQ:List D->Option D
 | [.lst a]=>some (.tup a)
 | [.tup a]=>some (.tup a)
 | _=>none
noncomputable def QW:List D->Option D
 | [.lst a]=>some (.lst a)
 | [.tup a]=>some (.lst a)
 | _=>none
noncomputable def insI(a:Int):List Int->List Int
 | []=>[a]
 | b::l=>if a<=b then a::b::l else b::insI a l
noncomputable def sortI:List Int->List Int
 | []=>[]
 | a::l=>insI a (sortI l)
noncomputable def fQ:List D->Option D
 | [.lst a]=>(intsOf a).bind λns=>if ns.length<64 then some (.lst ((sortI ns).map D.int)) else none
 | _=>none
noncomputable def B2:List D->Option D
 | [.lst a]=>(intsOf a).map λns=>.int ns.sum
 | _=>none
noncomputable def nF:List D->Option (List Bool)
 | []=>some []
 | d::ds=>(nE d).bind λb=>(nF ds).map (b :: ·)
noncomputable def allM:List D->Option D
 | [.lst a]=>(nF a).map λbs=>.bl (bs.all id)
 | _=>none
noncomputable def anyM:List D->Option D
 | [.lst a]=>(nF a).map λbs=>.bl (bs.any id)
 | _=>none
noncomputable def tyM:D->String
 | .non => "NoneType"
 | .bl _ => "bool"
 | .int _ => "int"
 | .str _ => "str"
 | .tup _ => "tuple"
 | .lst _ => "list"
 | .kZ _ => "list"
 | .kA _ _ => "dict"
 | .eD _ _ _ => "dict"
 | .exc _ _ => "NoneType"
noncomputable def HB(T:String)(d:D):Bool:=tyM d == T||(T == "int" && tyM d == "bool")
noncomputable def HC:D->Bool
 | .exc _ _=>false
 | .eD _ _ _=>false
 | _=>true
noncomputable def jO(T:String)(a:EF):EF:=λρ=>(a ρ).bind λd=>if HC d=true then some (.bl (HB T d)) else none
noncomputable def aW(lo:Int)(n:Nat):List Int:=(List.range n).map λk:Nat=>lo+(k:Int)
noncomputable def aHM(hi:Int)(n:Nat):List Int:=(List.range n).map λk:Nat=>hi - (k:Int)
noncomputable def pZ(t:AF):EF:=λρ=>(t ρ).bind λds=>match ds with
 | [.int j]=>if j.natAbs<=16777216 then some (.lst ((aW 0 j.toNat).map D.int)) else none
 | _=>none
noncomputable def wN:List D->Option D
 | [.int i,.int j]=>some (.int (if j>i then j else i))
 | _=>none
noncomputable def J9:List D->Option D
 | [.int i,.int j]=>some (.int (if j<i then j else i))
 | _=>none
noncomputable def repLM:D->D->Option D
 | .lst a,.int n=>if a.length*n.toNat<=pE/\n.natAbs<9223372036854775808 then some (.lst (List.replicate n.toNat a).flatten) else none
 | _,_=>none
noncomputable def MX:D->D->Option D
 | .lst a,.lst b=>if a.length+b.length<=pE then some (.lst (a++b)) else none
 | _,_=>none
noncomputable def EH:D->Option (List D)
 | .lst ds=>some ds
 | .tup ds=>some ds
 | _=>none
noncomputable def cK(f:EF):AF:=λρ=>(f ρ).bind EH
noncomputable def HD:List D->Option (List D)
 | [.int j]=>if j.natAbs<4611686018427387904 then some ((aW 0 j.toNat).map D.int) else none
 | [.int i,.int j]=>if i.natAbs<4611686018427387904/\j.natAbs<4611686018427387904 then some ((aW i (j - i).toNat).map D.int) else none
 | [.int i,.int j,.int k]=>if k=-1/\i.natAbs<1000000/\j.natAbs<1000000 then some ((aHM i (i - j).toNat).map D.int) else none
 | _=>none
noncomputable def bM(t:AF):AF:=λρ=>(t ρ).bind HD
noncomputable def KA:List D->Option (List D)
 | [.lst ds]=>some (ds.zipIdx.map λp=>.tup [.int (p.2:Int),p.1])
 | [.tup ds]=>some (ds.zipIdx.map λp=>.tup [.int (p.2:Int),p.1])
 | _=>none
noncomputable def mV(t:AF):AF:=λρ=>(t ρ).bind KA
noncomputable def aHN:List D->Option (List D)
 | [a,b]=>(EH a).bind λxs=>(EH b).map λys=>(xs.zip ys).map λp=>.tup [p.1,p.2]
 | _=>none
noncomputable def aAe(t:AF):AF:=λρ=>(t ρ).bind aHN
noncomputable def aAf:List D->Option (List D)
 | [.lst ds]=>some ds.reverse
 | [.tup ds]=>some ds.reverse
 | _=>none
noncomputable def MY(t:AF):AF:=λρ=>(t ρ).bind aAf
noncomputable abbrev HE:=D->cJ->Option cJ
noncomputable def g1(i:Nat):HE:=λd ρ=>some (ρ.set i (some d))
noncomputable def AD:D->Option (D×D)
 | .tup [x,y]=>some (x,y)
 | _=>none
noncomputable def g2(i j:Nat):HE:=λd ρ=>(AD d).map λp=>(ρ.set i (some p.1)).set j (some p.2)
noncomputable def cL:TF:=λ_=>some true
noncomputable def benv(nl:Nat)(fr:List Nat)(ρ:cJ):cJ:=List.replicate nl none++fr.map λj=>(ρ[j]?).join
noncomputable def jP(g:HE)(t:TF)(e:EF)(ρ:cJ):List D->Option (List D)
 | []=>some []
 | d::ds=>(g d ρ).bind λρ1=>(t ρ1).bind λb=>if b=true then (e ρ1).bind λy=>(jP g t e ρ ds).map (y :: ·) else jP g t e ρ ds
noncomputable def bQ(nl:Nat)(fr:List Nat)(it:AF)(g:HE)(t:TF)(e:EF):EF:=λρ=>(it ρ).bind λds=>if ds.length<=pE then (jP g t e (benv nl fr ρ) ds).map D.lst else none
noncomputable abbrev OF:=cJ->Option (Option Int)
noncomputable def oNo:OF:=λ_=>some none
noncomputable def asInt:D->Option Int
 | .int i=>some i
 | _=>none
noncomputable def oE(f:EF):OF:=λρ=>(f ρ).bind λd=>(asInt d).map some
noncomputable def XA(n d:Nat):Option Int->Nat
 | none=>d
 | some i=>if i<0 then (i+n).toNat else min i.toNat n
noncomputable def XB(xs:List D)(lo hi:Option Int):List D:=(xs.drop (XA xs.length 0 lo)).take (XA xs.length xs.length hi - XA xs.length 0 lo)
noncomputable def slM(d:D)(lo hi:Option Int):Option D:=match d with
 | .lst ds=>some (.lst (XB ds lo hi))
 | .tup ds=>some (.tup (XB ds lo hi))
 | _=>none
noncomputable def eSl(f:EF)(lo hi:OF):EF:=λρ=>(f ρ).bind λd=>(lo ρ).bind λl=>(hi ρ).bind λh=>slM d l h
noncomputable def uF(f:EF):XF:=λρ=>(f (bU ρ)).bind λd=>if d.AB=true then some (ρ,d) else none
noncomputable def bX(f:EF):XF:=λρ=>(f (kC ρ)).bind λd=>some (ρ,d)
noncomputable def lY:Option Sv->Option (List D)
 | some (.ow (.lst ds))=>some ds
 | _=>none
noncomputable def p4(i:Nat)(m:List D->D->Option (List D×D))(x:XF):XF:=λρ=>(lY ρ[i]?).bind λ_=>(x ρ).bind λp=>(lY p.1[i]?).bind λds=>(m ds p.2).map λq=>(p.1.set i (.ow (.lst q.1)),q.2)
noncomputable def jQ:List D->D->Option (List D×D):=λds d=>if ds.length<pE then some (ds++[d],.non) else none
noncomputable def XD:List D->D->Option (List D×D)
 | ds,.int k=>if k.natAbs<9223372036854775808 then (MW ds.length k).bind λj=>(ds[j]?).map λd=>(ds.eraseIdx j,d) else none
 | _,_=>none
noncomputable def MZ:List D->D->Option (List D×D)
 | ds,.lst es=>if ds.length+es.length<=pE then some (ds++es,.non) else none
 | _,_=>none
noncomputable def aDK(i:Nat):XF:=λρ=>(lY ρ[i]?).bind λds=>(ds[ds.length - 1]?).map λd=>(ρ.set i (.ow (.lst ds.dropLast)),d)
noncomputable def eP:SF:=λρ=>.nx ρ
noncomputable def aJ(f g:SF):SF:=λρ=>match f ρ with
 | .nx ρ'=>g ρ'
 | o=>o
noncomputable def bF(f:EF):SF:=λρ=>match f (bU ρ) with
 | some d=>.rt d
 | none=>.no
noncomputable def i6(t:TF)(a b:SF):SF:=λρ=>match t (bU ρ) with
 | some true=>a ρ
 | some false=>b ρ
 | none=>.no
noncomputable def aT(i:Nat)(f:EF):SF:=λρ=>match f (kC ρ) with
 | some d=>.nx (ρ.set i (.ro d))
 | none=>.no
noncomputable def pR(i:Nat)(x:XF):SF:=λρ=>match x ρ with
 | some p=>.nx (p.1.set i (.ro p.2))
 | none=>.no
noncomputable def iT(i:Nat)(f:EF):SF:=λρ=>match f (kC ρ) with
 | some d=>.nx (ρ.set i (.ow d))
 | none=>.no
noncomputable def p5:D->Bool
 | .lst ds=>qZ ds
 | _=>false
noncomputable def QX(i:Nat)(f:EF):SF:=λρ=>match f (bU ρ) with
 | some d=>if p5 d=true then .nx (ρ.set i (.ow d)) else .no
 | none=>.no
noncomputable def mW(i:Nat)(f:EF):SF:=λρ=>match f (bU ρ) with
 | some d=>if p5 d=true then .nx (ρ.set i (.ro d)) else .no
 | none=>.no
noncomputable def EI(i:Nat):SF:=λρ=>.nx (ρ.set i (.ow (.kA [] [])))
noncomputable def sX(x:XF):SF:=λρ=>match x ρ with
 | some p=>.nx p.1
 | none=>.no
noncomputable def B3(i:Nat)(x:XF)(k:EF):SF:=λρ=>match ((x ρ).bind λp=>(lY p.1[i]?).bind λds=>(k (bU p.1)).bind λkd=>(asInt kd).bind λkk=>(MW ds.length kk).map λj=>p.1.set i (.ow (.lst (ds.set j p.2)))) with
 | some ρ'=>.nx ρ'
 | none=>.no
noncomputable def wQ:Option Sv->Option (List (Sum Int Str)×List D)
 | some (.ow (.kA ks ds))=>some (ks,ds)
 | _=>none
noncomputable def KC(i:Nat)(x:XF)(k:EF):SF:=λρ=>match ((x ρ).bind λp=>(wQ p.1[i]?).bind λkd=>(k (bU p.1)).bind λkv=>(wL kv).bind λkk =>
  if (kD kd.1 kd.2 kk).isNone=true/\kd.2.length<pE then some (p.1.set i (.ow (.kA (kd.1++[kk]) (kd.2++[p.2])))) else none) with
 | some ρ'=>.nx ρ'
 | none=>.no
noncomputable abbrev QY:=D->aS->Option aS
noncomputable def pF(i:Nat):QY:=λd ρ=>some (ρ.set i (.ro d))
noncomputable def QN(i j:Nat):QY:=λd ρ=>(AD d).map λp=>(ρ.set i (.ro p.1)).set j (.ro p.2)
noncomputable def gT(g:QY)(b:SF):List D->aS->Out
 | [],ρ=>.nx ρ
 | d::ds,ρ=>match g d ρ with
  | none=>.no
  | some ρ1=>match b ρ1 with
   | .nx ρ2=>gT g b ds ρ2
   | o=>o
noncomputable def dZ(it:AF)(g:QY)(b:SF):SF:=λρ=>match it (kC ρ) with
 | some ds=>gT g b ds ρ
 | none=>.no
noncomputable def fU(t:TF)(b:SF):Nat->aS->Out
 | 0,_=>.no
 | n+1,ρ=>match t (bU ρ) with
  | none=>.no
  | some false=>.nx ρ
  | some true=>match b ρ with
   | .nx ρ'=>fU t b n ρ'
   | o=>o
noncomputable def nG:Nat:=1000000
noncomputable def sQ(n:Nat)(t:TF)(b:SF):SF:=fU t b n
noncomputable def eF(n:Nat)(ds:List D):aS:=ds.map Sv.ro++List.replicate (n - ds.length) Sv.no
noncomputable def cU(n np:Nat)(b:SF):gD:=λds=>if ds.length=np then (match b (eF n ds) with
 | .rt d=>.ok d
 | .nx _=>.ok .non
 | .ex c=>.ex c
 | .no=>.no) else .no
end L4
end
section
namespace L4
open PySem L3
noncomputable def iU:List Int->List Int->Bool
 | [],[]=>false
 | [],_::_=>true
 | _::_,[]=>false
 | a::as,b::bs=>if a=b then iU as bs else decide (a<b)
noncomputable def M0(t:List Int):List (List Int)->List (List Int)
 | []=>[t]
 | u::us=>if iU u t=true then u::M0 t us else t::u::us
noncomputable def uG:List (List Int)->List (List Int)
 | []=>[]
 | t::ts=>M0 t (uG ts)
noncomputable def rA(t:List Int):D:=.tup (t.map D.int)
noncomputable def aAA:D->Option (List Int)
 | .tup ds=>intsOf ds
 | _=>none
noncomputable def p6:List D->Option (List (List Int))
 | []=>some []
 | d::ds=>(aAA d).bind λt=>(p6 ds).map (t :: ·)
noncomputable def kP:List D->Option D
 | [.lst a]=>(p6 a).bind λts=>if ts.length<64/\ts.all (λt=>!t.isEmpty)=true then some (.lst ((uG ts).map rA)) else none
 | _=>none
theorem HF:∀ a b:List Int,iU a b=true->iU b a=false
 | [],[],h=>by cases h
 | [],_::_,_=>rfl
 | _::_,[],h=>by cases h
 | a::as,b::bs,h=>by
  unfold iU at h ⊢;by_cases e:a=b
  .rw [if_pos e] at h; rw [if_pos e.symm]; exact HF as bs h
  .rw [if_neg e] at h; rw [if_neg (Ne.symm e)]; simp at h ⊢; omega
theorem HG:∀ a b c:List Int,iU b a=false->iU c b=false->iU c a=false
 | [],[],c,h1,h2=>h2
 | [],b::bs,[],h1,h2=>rfl
 | [],b::bs,c::cs,h1,h2=>rfl
 | a::as,[],c,h1,h2=>by cases h1
 | a::as,b::bs,[],h1,h2=>by cases h2
 | a::as,b::bs,c::cs,h1,h2=>by
  unfold iU at h1 h2 ⊢;by_cases e1:b=a
  .subst e1;rw [if_pos rfl] at h1;by_cases e2:c=b
   .subst e2; rw [if_pos rfl] at h2 ⊢; exact HG as bs cs h1 h2
   .rw [if_neg e2] at h2 ⊢; exact h2
  .rw [if_neg e1] at h1;by_cases e2:c=b
   .subst e2; rw [if_neg e1]; exact h1
   .rw [if_neg e2] at h2;simp at h1 h2;rw [if_neg (by omega)];simp; omega
theorem QZ:∀ a b:List Int,iU a b=false->iU b a=false->a=b
 | [],[],_,_=>rfl
 | [],_::_,h1,_=>by cases h1
 | _::_,[],_,h2=>by cases h2
 | a::as,b::bs,h1,h2=>by
  unfold iU at h1 h2;by_cases e:a=b
  .subst e; rw [if_pos rfl] at h1 h2; rw [QZ as bs h1 h2]
  .rw [if_neg e] at h1; rw [if_neg (Ne.symm e)] at h2; simp at h1 h2; omega
theorem sR(t:List Int):∀ l,(M0 t l).Perm (t::l)
 | []=>.refl _
 | u::us=>by
  unfold M0;by_cases h:iU u t=true
  .rw [if_pos h]; exact ((sR t us).cons u).trans (.swap t u us)
  .rw [if_neg h]
theorem lZ:∀ l,(uG l).Perm l
 | []=>.refl _
 | t::ts=>(sR t _).trans ((lZ ts).cons t)
noncomputable def UpT(l:List (List Int)):Prop:=l.Pairwise λa b=>iU b a=false
theorem KG(t:List Int):∀ l,UpT l->UpT (M0 t l)
 | [],_=>List.pairwise_singleton _ _
 | u::us,h=>by
  have ⟨h1,h2⟩:=List.pairwise_cons.mp h;unfold M0;by_cases e:iU u t=true
  .rw [if_pos e];refine List.pairwise_cons.mpr ⟨λx hx=>?_,KG t us h2⟩;rcases List.mem_cons.mp ((sR t us).mem_iff.mp hx) with rfl | hx
   .exact HF _ _ e
   .exact h1 x hx
  .rw [if_neg e];have e:iU u t=false:=by simpa using e
   refine List.pairwise_cons.mpr ⟨λx hx=>?_,h⟩;rcases (List.mem_cons.mp hx:x=u\/x∈us) with rfl | hx
   .exact e
   .exact HG t u x e (h1 x hx)
theorem EJ:∀ l,UpT (uG l)
 | []=>.nil
 | t::ts=>KG t _ (EJ ts)
theorem KH:∀ {l m:List (List Int)},l.Perm m->UpT l->UpT m->l=m
 | [],m,p,_,_=>by rw [List.nil_perm.mp p]
 | a::l,[],p,_,_=>by have:=p.length_eq; simp at this
 | a::l,b::m,p,h1,h2=>by
  obtain ⟨a1,a2⟩:=List.pairwise_cons.mp h1;obtain ⟨b1,b2⟩:=List.pairwise_cons.mp h2;have e:a=b:=by
   have ha:=List.mem_cons.mp (p.mem_iff.mp mem_cons_self);have hb:=List.mem_cons.mp (p.mem_iff.mpr mem_cons_self);rcases ha with h | h
   .exact h
   .rcases hb with h' | h'
    .exact h'.symm
    .exact QZ _ _ (b1 a h) (a1 b h')
  subst e;rw [KH p.cons_inv a2 b2]
noncomputable def aDL(f:D->D->Option Bool):List D->List D->Option Bool
 | d::ds,e::es=>(f d e).bind λx=>(aDL f ds es).map (x && ·)
 | _,_=>some true
noncomputable def eqP:Nat->D->D->Option Bool
 | _,.int i,.int j=>some (decide (i=j))
 | _,.bl i,.bl j=>if i=j then some true else none
 | _,.str i,.str j=>if i=j then some true else none
 | n+1,.tup a,.tup b=>(aDL (eqP n) a b).map λr=>r&&decide (a.length=b.length)
 | _,_,_=>none
noncomputable def aDM:D->D->Option D:=λx y=>(eqP 8 x y).map D.bl
noncomputable def aHO(ρ:aS)(i:Nat):aS:=match ρ[i]? with
 | some (.ow d)=>ρ.set i (.ro d)
 | _=>ρ
noncomputable def aAg(i:Nat)(f:SF):SF:=λρ=>f (aHO ρ i)
noncomputable def aHP:List D->Option D
 | [.lst [d]]=>some (.lst [d])
 | ds=>kP ds
noncomputable def aDN:List D->Option D
 | [.tup a]=>(intsOf a).map λns=>.int ns.sum
 | _=>none
noncomputable def Q0(i:Nat)(fa fb:EF):XF:=λρ=>(lY ρ[i]?).bind λds=>(fa (bU ρ)).bind λk=>(asInt k).bind λkk=>(fb (bU ρ)).bind λd =>
 if d.AB=true/\0<=kk/\kk<=(ds.length:Int)/\ds.length<pE then some (ρ.set i (.ow (.lst (ds.take kk.toNat++d::ds.drop kk.toNat))),.non) else none
noncomputable def aO2:D->Option D
 | .lst ds=>some (.lst ds.reverse)
 | _=>none
noncomputable def aHQ:D->D->Option Bool
 | .lst a,.lst b=>(intsOf a).bind λx=>(intsOf b).map λy=>decide (x=y)
 | _,_=>none
noncomputable def putN(ns:List Int)(k:Int):List Int:=if k∈ns then ns else ns++[k]
noncomputable def bT(ns:List Int):List Int:=ns.foldl putN []
noncomputable def nH:List D->Option D
 | [.tup ds]=>(intsOf ds).bind λns=>if ns.length<64 then some (.lst ((sortI ns).map D.int)) else none
 | _=>none
noncomputable abbrev u7:Nat->Obj->Prop:=λ_ _=>True
noncomputable def adr(q:Nat->Obj->Prop):Nat->Obj->Prop:=λa _=>∃ o,q a o
noncomputable abbrev HH:=Sum Int Str
noncomputable abbrev PN1:=List (Sum HH (List HH))
noncomputable abbrev vJ:=Sum HH PN1
noncomputable def AE:List D->Option (List HH)
 | []=>some []
 | d::ds=>(wL d).bind λk=>(AE ds).map (k :: ·)
noncomputable def Q2:D->Option (Sum HH (List HH))
 | .tup ds=>(AE ds).map .inr
 | d=>(wL d).map .inl
noncomputable def wR:List D->Option PN1
 | []=>some []
 | d::ds=>(Q2 d).bind λk=>(wR ds).map (k :: ·)
noncomputable def sS:D->Option vJ
 | .tup ds=>(wR ds).map .inr
 | d=>(wL d).map .inl
noncomputable def cP(ks:List vJ)(ds:List D)(k:vJ):Option D:=((ks.zip ds).find? λp=>decide (p.1=k)).map (·.2)
noncomputable def kindB(ks:List vJ)(k:vJ):Bool:=ks.all λq=>q.isLeft == k.isLeft
noncomputable def aDO:D->D->Option D
 | .eD _ ks ds,d=>(sS d).bind λk=>if kindB ks k=true then cP ks ds k else none
 | _,_=>none
noncomputable def M1(neg:Bool):D->D->Option D
 | d,.eD _ ks ds=>(sS d).bind λk=>if kindB ks k=true then some (.bl (if neg then !(cP ks ds k).isSome else (cP ks ds k).isSome)) else none
 | _,_=>none
noncomputable def fB(ks:List vJ)(ds:List D)(k:vJ)(v:D):List vJ×List D :=
 if ks.any (λq=>decide (q=k))=true then (ks,(ks.zip ds).map λp=>if p.1=k then v else p.2) else (ks++[k],ds++[v])
noncomputable def M4:Option Sv->Option ((Nat->Obj->Prop)×List vJ×List D)
 | some (.ow (.eD q ks ds))=>some (q,ks,ds)
 | _=>none
noncomputable def aAB(i:Nat):SF:=λρ=>.nx (ρ.set i (.ow (.eD u7 [] [])))
noncomputable def AG(i:Nat)(x:XF)(k:EF):SF:=λρ=>match ((x ρ).bind λp=>(M4 p.1[i]?).bind λkd=>(k (bU p.1)).bind λkv=>(sS kv).bind λkk =>
  if kindB kd.2.1 kk=true/\kd.2.2.length<pE then some (p.1.set i (.ow (.eD (adr kd.1) (fB kd.2.1 kd.2.2 kk p.2).1 (fB kd.2.1 kd.2.2 kk p.2).2))) else none) with
 | some ρ'=>.nx ρ'
 | none=>.no
noncomputable def aAC:List D->Option (List D)
 | [.lst xs,.lst ys]=>some ((xs.zip ys).map λp=>.tup [p.1,p.2])
 | _=>none
noncomputable def AH(t:AF):AF:=λρ=>(t ρ).bind aAC
noncomputable def aHR:List Int->Int
 | []=>0
 | a::l=>l.foldl (λm b=>if b<m then b else m) a
noncomputable def aAD:List D->Option D
 | [.tup ds]=>(intsOf ds).bind λns=>if ns=[] then none else some (.int (aHR ns))
 | _=>none
noncomputable def aHS:D->D->Option D:=λx y=>(aHQ x y).map D.bl
noncomputable abbrev KD:=List vJ×List D
noncomputable abbrev XE:=List D->KD->M (D×KD)
noncomputable def startM(n:Nat)(ds:List D)(q:Nat->Obj->Prop)(kd:KD):aS:=ds.map Sv.ro++Sv.ow (.eD q kd.1 kd.2)::List.replicate (n - (ds.length+1)) Sv.no
noncomputable def XG(j:Nat)(k:EF)(q:Nat->Obj->Prop):aS->Option (D×KD):=λρ=>(M4 ρ[j]?).bind λkd=>(k (kC ρ)).bind λkv=>(sS kv).bind λkk=>@ite _ (kindB kd.2.1 kk=true /\ ∀ a o,kd.1 a o -> ∃ o2,q a o2) (Classical.propDecidable _) ((cP kd.2.1 kd.2.2 kk).map λd=>(d,kd.2)) none
noncomputable def wU(n np:Nat)(b:SF)(k:EF)(q:Nat->Obj->Prop)(ds:List D)(kd:KD):Option (D×KD):=if ds.length+1=np then (match b (startM n ds q kd) with
 | .nx ρ=>XG (np - 1) k q ρ
 | _=>none) else none
noncomputable def runM(n np:Nat)(b:SF)(k:EF):XE:=λds kd=>@dite _ (∃ r,∀ q,wU n np b k q ds kd=some r) (Classical.propDecidable _) (λh=>.ok h.choose) λ_=>.no
theorem KI{n np:Nat}{b:SF}{k:EF}{ds:List D}{kd:KD}{r:D×KD}(h:runM n np b k ds kd=.ok r)(q:Nat->Obj->Prop):wU n np b k q ds kd=some r:=by
 unfold runM at h;split at h
 .rename_i hx;cases h;exact hx.choose_spec q
 .cases h
theorem XH{n np:Nat}{b:SF}{k:EF}{ds:List D}{kd:KD}{r:D×KD}(h:∀ q,wU n np b k q ds kd=some r):runM n np b k ds kd=.ok r:=by have hx:∃ r,∀ q,wU n np b k q ds kd=some r:=⟨r,h⟩;unfold runM;rw [dif_pos hx];have e:=hx.choose_spec u7;rw [h u7] at e;rw [Option.some.inj e]
noncomputable def stepM(R:XE)(t:AF)(j:Nat)(ρ:aS):Option ((Nat->Obj->Prop)×D×KD):=(t (kC ρ)).bind λds=>(M4 ρ[j]?).bind λkd=>match R ds kd.2 with
 | .ok r=>some (kd.1,r)
 | _=>none
noncomputable def sU(i:Nat)(R:XE)(t:AF)(j:Nat):SF:=λρ=>match stepM R t j ρ with
 | some r=>.nx ((ρ.set j (.ow (.eD (adr r.1) r.2.2.1 r.2.2.2))).set i (.ro r.2.1))
 | none=>.no
noncomputable def XI(R:XE)(t:AF)(j:Nat):SF:=λρ=>match stepM R t j ρ with
 | some r=>.nx (ρ.set j (.ow (.eD (adr r.1) r.2.2.1 r.2.2.2)))
 | none=>.no
end L4
end
section
namespace Ord
structure Rows (rows:List (List Int)):Prop where
 up:∀ (b:Nat) (r:List Int),rows[b]? = some r->r.Pairwise (·<·)
 rng:∀ (b:Nat) (r:List Int),rows[b]? = some r -> ∀ a∈r,0<=a/\a<(rows.length:Int)
 tr:∀ (b a:Nat) (r v:List Int),rows[b]? = some r->(a:Int)∈r->rows[a]? = some v -> ∀ c∈v,c∈r
 W3:∀ (b:Nat) (r:List Int),rows[b]? = some r->(b:Int)∉r
theorem wV{α:Type}:∀ (l:List α) (j:Nat) (x:α),l[j]? = some x->(x::l.eraseIdx j).Perm l
 | [],j,x,h=>by simp at h
 | a::l,0,x,h=>by simp at h; subst h; simp
 | a::l,j+1,x,h=>by have ih:=wV l j x (by simpa using h);rw [List.eraseIdx_cons_succ];exact (List.Perm.swap a x _).trans (ih.cons a)
theorem B4{l:List Int}(p:Int->Bool)(h:l.Nodup):(l.filter p).Nodup:=List.Pairwise.filter p h
noncomputable def Under(word:List Int)(us:List (List Int))(t:Nat)(u:List Int):Prop :=
 u.Nodup /\ ∀ a∈u,∃ (s:Nat) (v:List Int),s<t/\word[s]? = some a/\us[s]? = some v /\ ∀ c∈v,c∈u
noncomputable def Good(word:List Int)(us:List (List Int)):Prop:=∀ (t:Nat) (u:List Int),us[t]? = some u->Under word us t u
theorem Under.mono{word:List Int}{us:List (List Int)}{t t':Nat}{u:List Int}(h:Under word us t u)(ht:t<=t'):Under word us t' u :=
 ⟨h.1,λa ha=>by obtain ⟨s,v,h1,h2,h3,h4⟩:=h.2 a ha; exact ⟨s,v,by omega,h2,h3,h4⟩⟩
theorem wW{word:List Int}(h:word.Nodup){i j:Nat}{a:Int}(hi:word[i]? = some a)(hj:word[j]? = some a):i=j:=by obtain ⟨h1,e1⟩:=List.getElem?_eq_some_iff.mp hi;obtain ⟨h2,e2⟩:=List.getElem?_eq_some_iff.mp hj;exact (List.getElem_inj h).mp (e1.trans e2.symm)
theorem Under.step{word:List Int}{us:List (List Int)}{i:Nat}{u v:List Int}{x:Int}(hw:word.Nodup)(g:Good word us)(h:Under word us i u)(hx:word[i]? = some x)(hv:us[i]? = some v) :
  Under word us (i+1) (u++(v++[x]).filter λa=>!u.contains a):=by
 have gv:=g i v hv;have mem:∀ c,c∈v++[x]->c∈u++(v++[x]).filter λa=>!u.contains a:=λc hc=>by
  by_cases hu:c∈u
  .exact mem_append_left _ hu
  .exact mem_append_right _ (List.mem_filter.mpr ⟨hc,by simpa using hu⟩)
 have nv:(v++[x]).Nodup:=by refine List.nodup_append.mpr ⟨gv.1,by simp,λa ha b hb e=>?_⟩;have hb:=List.mem_singleton.mp hb;subst hb;subst e;obtain ⟨s,_,h1,h2,_⟩:=gv.2 a ha;have:=wW hw h2 hx;omega
 refine ⟨List.nodup_append.mpr ⟨h.1,B4 _ nv,λa ha b hb e=>?_⟩,λa ha=>?_⟩
 .subst e;have:=(List.mem_filter.mp hb).2;simp at this;exact this ha
 .rcases List.mem_append.mp ha with h1 | h1
  .obtain ⟨s,z,a1,a2,a3,a4⟩:=h.2 a h1;exact ⟨s,z,by omega,a2,a3,λc hc=>mem_append_left _ (a4 c hc)⟩
  .rcases List.mem_append.mp (List.mem_filter.mp h1).1 with h2 | h2
   .obtain ⟨s,z,a1,a2,a3,a4⟩:=gv.2 a h2;exact ⟨s,z,by omega,a2,a3,λc hc=>mem c (mem_append_left _ (a4 c hc))⟩
   .have e:=List.mem_singleton.mp h2;subst e;exact ⟨i,v,by omega,hx,hv,λc hc=>mem c (mem_append_left _ hc)⟩
theorem Good.snoc{word:List Int}{us:List (List Int)}{u:List Int}(g:Good word us)(h:Under word us us.length u):Good word (us++[u]):=λt z e=>by
 have old:∀ {s:Nat} {v:List Int},us[s]? = some v->(us++[u])[s]? = some v:=λ{s v} e=>by rw [getElem?_append_left (List.getElem?_eq_some_iff.mp e).1]; exact e
 have up:∀ {t:Nat} {z:List Int},Under word us t z->Under word (us++[u]) t z:=λ{t z} q=>⟨q.1,λa ha=>by obtain ⟨s,v,a1,a2,a3,a4⟩:=q.2 a ha; exact ⟨s,v,a1,a2,old a3,a4⟩⟩;by_cases ht:t<us.length
 .rw [getElem?_append_left ht] at e;exact up (g t z e)
 .have et:t=us.length:=by have:=(List.getElem?_eq_some_iff.mp e).1;simp at this;omega
  subst et;rw [getElem?_append_right (Nat.le_refl _),Nat.sub_self] at e;have e:u=z:=by simpa using e
  subst e;exact up h
theorem Good.rows{word:List Int}{us rows:List (List Int)}{n:Nat}(g:Good word us)(hu:us.length=n)(hw:word.Perm ((List.range n).map λk:Nat=>(k:Int)))(hr:rows.length=n)
  (h:∀ (b t:Nat) (r u:List Int),rows[b]? = some r->word[t]? = some (b:Int)->us[t]? = some u->r.Perm u/\r.Pairwise (· <= ·)):Rows rows:=by
 have nd:word.Nodup:=hw.nodup_iff.mpr (by
  refine List.Pairwise.map _ (λa b hab=>?_) List.nodup_range;intro e;exact hab (by omega))
 have find:∀ (b:Nat),b<n -> ∃ t u,word[t]? = some (b:Int)/\us[t]? = some u:=λb hb=>by
  have hm:(b:Int)∈word:=hw.mem_iff.mpr (List.mem_map.mpr ⟨b,List.mem_range.mpr hb,rfl⟩);obtain ⟨t,ht⟩:=List.mem_iff_getElem?.mp hm;have hl:word.length=n:=by rw [hw.length_eq,length_map,length_range]
  have:=(List.getElem?_eq_some_iff.mp ht).1;exact ⟨t,us[t]'(by omega),ht,getElem?_eq_getElem (by omega)⟩
 have row:∀ (b:Nat) (r:List Int),rows[b]? = some r -> ∃ t u,word[t]? = some (b:Int)/\us[t]? = some u/\r.Perm u/\r.Pairwise (· <= ·):=λb r e=>by have hb:=(List.getElem?_eq_some_iff.mp e).1;obtain ⟨t,u,h1,h2⟩:=find b (by omega);exact ⟨t,u,h1,h2,h b t r u e h1 h2⟩
 refine ⟨λb r e=>?_,λb r e a ha=>?_,λb a r v e ha ev c hc=>?_,λb r e hb=>?_⟩
 .obtain ⟨t,u,h1,h2,h3,h4⟩:=row b r e;have n1:r.Nodup:=h3.nodup_iff.mpr (g t u h2).1;exact (List.pairwise_and_iff.mpr ⟨h4,n1⟩).imp λq=>by have:=q.1; have:=q.2; omega
 .obtain ⟨t,u,h1,h2,h3,h4⟩:=row b r e;obtain ⟨s,z,_,a2,_⟩:=(g t u h2).2 a (h3.mem_iff.mp ha);have hm:=hw.mem_iff.mp (mem_of_getElem? a2);obtain ⟨k,hk,rfl⟩:=List.mem_map.mp hm;have:=List.mem_range.mp hk;omega
 .obtain ⟨t,u,h1,h2,h3,h4⟩:=row b r e;obtain ⟨t2,u2,k1,k2,k3,k4⟩:=row a v ev;obtain ⟨s,z,_,a2,a3,a4⟩:=(g t u h2).2 _ (h3.mem_iff.mp ha);have es:=wW nd a2 k1;subst es;rw [k2] at a3;cases a3;exact h3.mem_iff.mpr (a4 c (k3.mem_iff.mp hc))
 .obtain ⟨t,u,h1,h2,h3,h4⟩:=row b r e;obtain ⟨s,z,a1,a2,_⟩:=(g t u h2).2 _ (h3.mem_iff.mp hb);have:=wW nd a2 h1;omega
noncomputable def tri:Nat->Nat
 | 0=>0
 | j+1=>tri j+j
theorem Q4{i j:Nat}(h:i<=j):tri i<=tri j:=by
 induction h with
 | refl=>exact Nat.le_refl _
 | step _ ih=>exact Nat.le_trans ih (Nat.le_add_right _ _)
theorem aAh{n j i:Nat}(hj:j<n)(hi:i<j):tri j+i<tri n:=by have:=Q4 (show j+1<=n by omega);show tri j+i<tri n;have e:tri (j+1)=tri j+j:=rfl;omega
theorem dH:∀ (l m:List Int),l.Nodup->(∀ a∈l,a∈m)->l.length<=m.length
 | [],m,_,_=>Nat.zero_le _
 | a::l,m,h,hs=>by
  obtain ⟨h1,h2⟩:=List.nodup_cons.mp h;have ha:=hs a mem_cons_self;have ih:=dH l (m.erase a) h2 λb hb=>by have:b≠a:=λe=>h1 (e▸hb);exact (List.mem_erase_of_ne this).mpr (hs b (mem_cons_of_mem _ hb))
  rw [List.length_erase_of_mem ha] at ih;have:0<m.length:=List.length_pos_of_mem ha;rw [length_cons];omega
end Ord
end
section
namespace LL
open PySem L3 L4
noncomputable def dU:gD:=cU 2 2
  (aJ (i6 (tV (aE wJ (cN cR (aA (aB 0) aC)) (eC (.int 0))))
   (bF (eC (.int 0)))
   eP)
  (bF (aE eE (aB 0) (aE iN (aB 1) (cN cR (aA (aB 0) aC))))))
noncomputable def eG:gD:=cU 5 3
  (aJ (aT 3 (aE iN (aE mulM (aE dB (aE dB (aE dB (aB 0) (aE mulM (aE mulM (eC (.int 11)) (aB 1)) (aB 1))) (aE mulM (eC (.int 17)) (aB 1))) (aB 2)) (eC (.int 48271))) (eC (.int 2147483647))))
  (aJ (aT 4 (aE iN (aE dB (aE dB (aE mulM (aB 3) (aE dB (aE uZ (aB 3) (eC (.int 4096))) (eC (.int 5)))) (aE mulM (eC (.int 29)) (aB 1))) (aB 2)) (eC (.int 2147483629))))
  (bF (aE iN (aE mulM (aB 4) (eC (.int 39373))) (eC (.int 1000000007))))))
noncomputable def dM:gD:=cU 6 3
  (aJ (iT 3 (eM aC))
  (aJ (aT 4 (eC (.int 0)))
  (aJ (i6 (tV (aE geM (aB 0) (aE pX (eC (.int 10)) (eC (.int 18)))))
   (aT 4 (aB 0))
   eP)
  (aJ (dZ (bM (aA (aB 1) aC)) (pF 5)
   (i6 (tV (aE J8 (aB 4) (eC (.int 0))))
    (aJ (sX (p4 3 jQ (bX (aE iN (aB 4) (eC (.int 64))))))
    (aT 4 (aE uZ (aB 4) (eC (.int 64)))))
    (sX (p4 3 jQ (bX (aI LL.eG (aA (aB 0) (aA (aB 5) (aA (aB 2) aC)))))))))
  (bF (aB 3))))))
noncomputable def bI:Nat->gD
 | 0=>λ_=>.no
 | n+1=>cU 2 2
  (aJ (i6 (tV (jO "tuple" (aB 1)))
   (aJ (i6 (zF (iZ (tV (jO "tuple" (aB 0)))) (tV (aE MV (cN cR (aA (aB 0) aC)) (cN cR (aA (aB 1) aC)))))
    (bF (eC (.bl false)))
    eP)
   (bF (cN allM (aA (bQ 1 [0,1] (bM (aA (cN cR (aA (aB 1) aC)) aC)) (g1 0) cL (aI (bI n) (aA (aE eE (aB 1) (aB 0)) (aA (aE eE (aB 2) (aB 0)) aC)))) aC))))
   eP)
  (aJ (i6 (tV (aE W9 (aB 1) (eC .non)))
   (bF (aE W9 (aB 0) (eC .non)))
   eP)
  (aJ (i6 (tV (jO "bool" (aB 1)))
   (bF (mY (jO "bool" (aB 0)) (aE wJ (aB 0) (aB 1))))
   eP)
  (aJ (i6 (tV (jO "int" (aB 1)))
   (bF (mY (jO "int" (aB 0)) (mY (zG (jO "bool" (aB 0))) (aE wJ (aB 0) (aB 1)))))
   eP)
  (bF (mY (jO "str" (aB 0)) (aE wJ (aB 0) (aB 1))))))))
noncomputable def i7:gD:=cU 11 3
  (aJ (iT 3 (pZ (aA (aB 1) aC)))
  (aJ (iT 4 (eM aC))
  (aJ (dZ (bM (aA (aB 1) aC)) (pF 5)
   (sX (p4 4 jQ (p4 3 XD (uF (aE iN (aE eE (aB 0) (aB 5)) (cN cR (aA (aB 3) aC))))))))
  (aJ (EI 6)
  (aJ (aT 7 (aB 1))
  (aJ (dZ (bM (aA (aB 1) aC)) (pF 8)
   (aJ (aT 9 (eM aC))
   (aJ (dZ (bM (aA (aB 8) aC)) (pF 10)
    (aJ (i6 (tV (aE ltM (aE iN (aE eE (aB 0) (aB 7)) (eC (.int 4))) (aB 2)))
     (mW 9 (aE MX (aB 9) (bQ 1 [9] (cK (aE dB (aE wM (aB 6) (aE eE (aB 4) (aB 10))) (eM (aA (aE eE (aB 4) (aB 10)) aC)))) (g1 0) (tV (aE (oP true) (aB 0) (aB 1))) (aB 0))))
     eP)
    (aT 7 (aE dB (aB 7) (eC (.int 1))))))
   (KC 6 (bX (aB 9)) (aE eE (aB 4) (aB 8))))))
  (bF (cN cQ (aA (bQ 1 [6] (bM (aA (aB 1) aC)) (g1 0) cL (cN cQ (aA (cN fQ (aA (aE wM (aB 1) (aB 0)) aC)) aC))) aC)))))))))
noncomputable def dS:gD:=cU 7 4
  (aJ (aT 4 (aI LL.dM (aA (aI LL.dU (aA (aB 0) (aA (aB 1) aC))) (aA (eC (.int 4)) (aA (aB 3) aC)))))
  (aJ (aT 5 (aE iN (aE eE (aB 4) (eC (.int 0))) (aE dB (aB 2) (eC (.int 1)))))
  (aJ (aT 6 (aI LL.dM (aA (aI LL.dU (aA (aB 0) (aA (aE dB (aB 1) (eC (.int 1))) aC))) (aA (aE dB (aB 5) (aE uZ (aE mulM (aB 5) (aE fA (aB 5) (eC (.int 1)))) (eC (.int 2)))) (aA (aE dB (aB 3) (eC (.int 10007))) aC)))))
  (bF (aI LL.i7 (aA (aB 6) (aA (aB 5) (aA (aE eE (eM (aA (eC (.int 1)) (aA (eC (.int 1)) (aA (eC (.int 2)) (aA (eC (.int 2)) (aA (eC (.int 3)) (aA (eC (.int 1)) (aA (eC (.int 0)) (aA (eC (.int 4)) aC))))))))) (aE iN (aE eE (aB 4) (eC (.int 1))) (eC (.int 8)))) aC))))))))
noncomputable def tupI(xs:List Int):D:=.tup (xs.map D.int)
noncomputable def aG(xs:List Int):D:=.lst (xs.map D.int)
noncomputable def aO(rows:List (List Int)):D:=.tup (rows.map tupI)
theorem nI{i j:Int}:dB (.int i) (.int j)=some (.int (i+j)):=rfl
theorem wZ{i j:Int}:fA (.int i) (.int j)=some (.int (i - j)):=rfl
theorem dI{i j:Int}(h:0<j):iN (.int i) (.int j)=some (.int (i % j)):=by simp [iN,pQ,h]
theorem nJ{i j:Int}(h:0<j)(h2:j<1073741824):uZ (.int i) (.int j)=some (.int (i / j)):=by simp [uZ,pQ,h,show j.natAbs<1073741824 by omega]
theorem B5{i j:Int}:ltM (.int i) (.int j)=some (.bl (decide (i<j))):=rfl
theorem B6{i j:Int}:leM (.int i) (.int j)=some (.bl (decide (i<=j))):=rfl
theorem B7{i j:Int}:J8 (.int i) (.int j)=some (.bl (decide (j<i))):=rfl
theorem rB{i j:Int}:geM (.int i) (.int j)=some (.bl (decide (j<=i))):=rfl
theorem kE{i j:Int}:wJ (.int i) (.int j)=some (.bl (decide (i=j))):=rfl
theorem vK{i j:Int}:MV (.int i) (.int j)=some (.bl (!decide (i=j))):=rfl
theorem sV{i j:Bool}:wJ (.bl i) (.bl j)=some (.bl (decide (i=j))):=rfl
theorem oQ{i j:Str}:wJ (.str i) (.str j)=some (.bl (decide (i=j))):=rfl
theorem B8{d:D}:W9 d .non=some (.bl (wK d)):=rfl
theorem vL{a:List D}{i:Int}:eE (.lst a) (.int i)=zH a i:=rfl
theorem vM{a:List D}{i:Int}:eE (.tup a) (.int i)=zH a i:=rfl
theorem B9{a:List Int}{i:Int}:eE (.kZ a) (.int i)=(zH a i).map D.int:=rfl
theorem rC{a:List D}:cR [.lst a]=some (.int a.length):=rfl
theorem lB{a:List D}:cR [.tup a]=some (.int a.length):=rfl
theorem w8{a:List Int}:cR [.kZ a]=some (.int a.length):=rfl
theorem p7{a:List D}:cQ [.lst a]=some (.tup a):=rfl
theorem p8{a:List D}:cQ [.tup a]=some (.tup a):=rfl
theorem sW{a:List D}:QW [.lst a]=some (.lst a):=rfl
theorem sY{a:List D}:QW [.tup a]=some (.lst a):=rfl
theorem sZ{a:List D}:EH (.lst a)=some a:=rfl
theorem tD{a:List D}:EH (.tup a)=some a:=rfl
theorem lC{b:Bool}:nE (.bl b)=some b:=rfl
theorem p9{b:List D}:nE (.lst b)=some (!b.isEmpty):=rfl
theorem qA{b:List D}:nE (.tup b)=some (!b.isEmpty):=rfl
theorem w9{b:Bool}:uE (.bl b)=some b:=rfl
theorem vN{ds:List D}{d:D}(h:ds.length<16777216):jQ ds d=some (ds++[d],.non):=if_pos h
theorem XJ{ds es:List D}(h:ds.length+es.length<=16777216):MZ ds (.lst es)=some (ds++es,.non):=if_pos h
theorem tE{ds:List D}:KA [.tup ds]=some (ds.zipIdx.map λp=>.tup [.int (p.2:Int),p.1]):=rfl
theorem tF{ds:List D}:KA [.lst ds]=some (ds.zipIdx.map λp=>.tup [.int (p.2:Int),p.1]):=rfl
theorem xA{ds:List D}:aAf [.tup ds]=some ds.reverse:=rfl
theorem xB{ds:List D}:aAf [.lst ds]=some ds.reverse:=rfl
theorem gG{n np:Nat}{b:SF}{ds:List D}{d:D}(hl:ds.length=np)(h:b (eF n ds)=.rt d):cU n np b ds=.ok d:=by unfold cU; rw [if_pos hl,h]
theorem dN{f g:SF}{ρ:aS}{o:Out}(ρ':aS)(h1:f ρ=.nx ρ')(h2:g ρ' = o):aJ f g ρ=o:=by unfold aJ; rw [h1]; exact h2
theorem CA{f g:SF}{ρ:aS}{d:D}(h1:f ρ=.rt d):aJ f g ρ=.rt d:=by unfold aJ; rw [h1]
theorem gW{f:EF}{ρ:aS}{d:D}(h:f (bU ρ)=some d):bF f ρ=.rt d:=by unfold bF; rw [h]
theorem fM{i:Nat}{f:EF}{ρ:aS}(d:D){ρ':aS}(h:f (kC ρ)=some d)(hr:ρ.set i (.ro d)=ρ'):aT i f ρ=.nx ρ':=by unfold aT; rw [h,<- hr]
theorem QO{t:TF}{a b:SF}{ρ:aS}{o:Out}(h:t (bU ρ)=some true)(h2:a ρ=o):i6 t a b ρ=o:=by unfold i6; rw [h]; exact h2
theorem xC{t:TF}{a b:SF}{ρ:aS}{o:Out}(h:t (bU ρ)=some false)(h2:b ρ=o):i6 t a b ρ=o:=by unfold i6; rw [h]; exact h2
theorem Q5{it:AF}{g:QY}{b:SF}{ρ:aS}{o:Out}(ds:List D)(h:it (kC ρ)=some ds)(h2:gT g b ds ρ=o):dZ it g b ρ=o:=by unfold dZ; rw [h]; exact h2
theorem iO{nl:Nat}{fr:List Nat}{it:AF}{g:HE}{t:TF}{e:EF}{ρ:cJ}(ds:List D){ys:List D}(h:it ρ=some ds)(hl:ds.length<=16777216)(h2:jP g t e (benv nl fr ρ) ds=some ys):bQ nl fr it g t e ρ=some (.lst ys):=by unfold bQ; rw [h];show (if ds.length<=pE then _ else _)=_;rw [if_pos (show ds.length<=pE from hl),h2]; rfl
theorem xD{a b:List D}(h:a.length+b.length<=16777216):dB (.lst a) (.lst b)=some (.lst (a++b)):=if_pos h
theorem EK{a b:List D}(h:a.length+b.length<=16777216):dB (.tup a) (.tup b)=some (.tup (a++b)):=if_pos h
theorem Q6{a b:List D}(h:a.length+b.length<=16777216):MX (.lst a) (.lst b)=some (.lst (a++b)):=if_pos h
theorem nK{i j:Int}(h:i.natAbs<18446744073709551616):mulM (.int i) (.int j)=some (.int (i*j)):=by simp [mulM,pQ,wH,h]
theorem xE{i j:Int}(h:j.natAbs<18446744073709551616):mulM (.int i) (.int j)=some (.int (i*j)):=by simp [mulM,pQ,wH,h]
theorem EL{j:Int}(h:j.natAbs<4611686018427387904):HD [.int j]=some ((aW 0 j.toNat).map D.int):=if_pos h
theorem rD{n:Nat}(h:n<4611686018427387904):HD [.int (n:Int)]=some ((aW 0 n).map D.int):=by rw [EL (by omega)]; rfl
theorem dO:∀ ns:List Int,intsOf (ns.map D.int)=some ns
 | []=>rfl
 | n::ns=>by simp [intsOf,dO ns]
theorem mB{neg:Bool}{i:Int}{ns:List Int}:oP neg (.int i) (.tup (ns.map D.int))=some (.bl (if neg then !ns.contains i else ns.contains i)):=by simp [oP,dO]
theorem rE{neg:Bool}{i:Int}{ns:List Int}:oP neg (.int i) (.lst (ns.map D.int))=some (.bl (if neg then !ns.contains i else ns.contains i)):=by simp [oP,dO]
theorem sorted_ints{ns:List Int}(h:ns.length<64):fQ [.lst (ns.map D.int)]=some (.lst ((sortI ns).map D.int)):=by simp [fQ,dO,h]
theorem sum_ints{ns:List Int}:B2 [.lst (ns.map D.int)]=some (.int ns.sum):=by simp [B2,dO]
theorem tG:∀ bs:List Bool,nF (bs.map D.bl)=some bs
 | []=>rfl
 | b::bs=>by simp [nF,nE,tG bs]
theorem CB{bs:List Bool}:allM [.lst (bs.map D.bl)]=some (.bl (bs.all id)):=by simp [allM,tG]
theorem xF{n:Nat}{i:Int}(h0:0<=i)(h1:i<n):MW n i=some i.toNat:=by unfold MW; rw [if_pos h0,if_pos h1]
theorem XM{n k:Nat}(h:k<n):MW n (k:Int)=some k:=by rw [xF (by omega) (by omega)]; rfl
theorem XN{α:Type}{xs:List α}{k:Nat}(h:k<xs.length):zH xs (k:Int)=xs[k]?:=by unfold zH; rw [XM h]; rfl
theorem CC{α:Type}{xs:List α}{i:Int}(h0:0<=i)(h1:i<xs.length):∃ x∈xs,zH xs i=some x/\xs[i.toNat]? = some x:=by
 have hl:i.toNat<xs.length:=by omega
 refine ⟨xs[i.toNat],getElem_mem hl,?_,by simp [hl]⟩;unfold zH; rw [xF h0 h1]; simp [hl]
theorem vO{α β:Type}(f:α->β)(xs:List α)(i:Int):zH (xs.map f) i=(zH xs i).map f:=by
 unfold zH;rw [length_map]
 cases MW xs.length i with
 | none=>rfl
 | some j=>simp
theorem CD{α:Type}{xs:List α}{k:Nat}{x:α}(h:xs[k]? = some x):zH xs (k:Int)=some x:=by rw [XN (List.getElem?_eq_some_iff.mp h).1,h]
theorem aN(lo:Int)(n:Nat):(aW lo n).length=n:=by simp [aW]
theorem iP{lo:Int}{n i:Nat}(h:i<n):(aW lo n)[i]? = some (lo+(i:Int)):=by simp [aW,h]
theorem M5(lo:Int)(n:Nat):aW lo (n+1)=aW lo n++[lo+(n:Int)]:=by simp [aW,List.range_succ]
theorem bG{lo:Int}{n:Nat}{x:Int}:x∈aW lo n↔lo<=x/\x<lo+n:=by
 unfold aW;rw [mem_map];simp only [List.mem_range]
 constructor
 .rintro ⟨k,hk,rfl⟩; omega
 .rintro ⟨h1,h2⟩; exact ⟨(x - lo).toNat,by omega,by omega⟩
theorem EM{g:QY}{b:SF}(P:Nat->aS->Prop)(ds:List D){ρ:aS}(h0:P 0 ρ)(step:∀ (i:Nat) (d:D) (ρ:aS),ds[i]? = some d->P i ρ -> ∃ ρ1 ρ2,g d ρ=some ρ1/\b ρ1=.nx ρ2/\P (i+1) ρ2) :
  ∃ ρ',gT g b ds ρ=.nx ρ'/\P ds.length ρ':=by
 suffices H:∀ (l:List D) (k:Nat) (ρ:aS),ds.drop k=l->k<=ds.length->P k ρ -> ∃ ρ',gT g b l ρ=.nx ρ'/\P ds.length ρ' from H ds 0 ρ (by simp) (Nat.zero_le _) h0
 intro l
 induction l with
 | nil =>
  intro k ρ hl hk hp;have:ds.length<=k:=by simpa using hl
  exact ⟨ρ,rfl,by rwa [show ds.length=k by omega]⟩
 | cons d l ih =>
  intro k ρ hl hk hp;have hk':k<ds.length:=by apply Classical.byContradiction;intro h;rw [List.drop_eq_nil_of_le (by omega)] at hl;cases hl
  have hd:ds[k]? = some d:=by have:=congrArg (λx=>x[0]?) hl;simpa using this
  obtain ⟨ρ1,ρ2,e1,e2,p2⟩:=step k d ρ hd hp;have hl2:ds.drop (k+1)=l:=by rw [List.drop_eq_getElem_cons hk'] at hl;exact (List.cons.inj hl).2
  obtain ⟨ρ',e3,p3⟩:=ih (k+1) ρ2 hl2 hk' p2;exact ⟨ρ',by simp only [gT,e1,e2,e3],p3⟩
theorem Q7{g:QY}{b:SF}(P:Nat->aS->Prop)(lo:Int)(n:Nat){ρ:aS}(h0:P 0 ρ)(step:∀ (i:Nat) (ρ:aS),i<n->P i ρ -> ∃ ρ1 ρ2,g (.int (lo+(i:Int))) ρ=some ρ1/\b ρ1=.nx ρ2/\P (i+1) ρ2) :
  ∃ ρ',gT g b ((aW lo n).map D.int) ρ=.nx ρ'/\P n ρ':=by
 have:=EM (g:=g) (b:=b) P ((aW lo n).map D.int) h0 λi d ρ hd hp=>by
  have hi:i<n:=by have:=(List.getElem?_eq_some_iff.mp hd).1;simpa [aN] using this
  rw [getElem?_map,iP hi] at hd;cases hd;exact step i ρ hi hp
 simpa [aN] using this
theorem AI{α:Type}{g:HE}{e:EF}{ρ:cJ}(mk:α->D)(f:α->D)(l:List α)(h:∀ a∈l,(g (mk a) ρ).bind e=some (f a)):jP g cL e ρ (l.map mk)=some (l.map f):=by
 induction l with
 | nil=>rfl
 | cons a l ih =>
  have h1:=h a (by simp);have h2:=ih λx hx=>h x (by simp [hx])
  cases hg:g (mk a) ρ with
  | none=>rw [hg] at h1; cases h1
  | some ρ1 =>
   rw [hg] at h1;have h1':e ρ1=some (f a):=h1;simp only [map_cons,jP,hg,Option.bind_some,cL,if_true,h1',h2,Option.map_some]
theorem eI{α:Type}{g:HE}{e:EF}{ρ:cJ}(mk:α->D)(f:α->D)(l:List α)(h:∀ a∈l,∃ ρ1,g (mk a) ρ=some ρ1/\e ρ1=some (f a)):jP g cL e ρ (l.map mk)=some (l.map f) :=
 AI mk f l λa ha=>by obtain ⟨ρ1,h1,h2⟩:=h a ha;rw [h1]; exact h2
theorem kF{α:Type}{g:HE}{t:TF}{e:EF}{ρ:cJ}(mk:α->D)(p:α->Bool)(f:α->D)(l:List α)(h:∀ a∈l,∃ ρ1,g (mk a) ρ=some ρ1/\t ρ1=some (p a)/\(p a=true->e ρ1=some (f a))) :
  jP g t e ρ (l.map mk)=some ((l.filter p).map f):=by
 induction l with
 | nil=>rfl
 | cons a l ih =>
  obtain ⟨ρ1,h1,h2,h3⟩:=h a (by simp);have ih:=ih λx hx=>h x (by simp [hx])
  cases hp:p a with
  | false=>simp [jP,h1,h2,hp,ih]
  | true=>simp [jP,h1,h2,hp,h3 hp,ih]
theorem Q8{α β:Type}{g:HE}{e:EF}{ρ:cJ}(mk:α->D)(out:β->D)(R:α->β->Prop)(l:List α)(h:∀ a∈l,∃ ρ1 b,g (mk a) ρ=some ρ1/\e ρ1=some (out b)/\R a b) :
  ∃ bs:List β,bs.length=l.length/\(∀ (i:Nat) (a:α) (b:β),l[i]? = some a->bs[i]? = some b->R a b)/\jP g cL e ρ (l.map mk)=some (bs.map out):=by
 induction l with
 | nil=>exact ⟨[],rfl,λi a b h=>by simp at h,rfl⟩
 | cons a l ih =>
  obtain ⟨ρ1,b,h1,h2,h3⟩:=h a (by simp);obtain ⟨bs,hl,hr,hc⟩:=ih λx hx=>h x (by simp [hx]);refine ⟨b::bs,by simp [hl],λi x y hx hy=>?_,by simp [jP,h1,h2,hc,cL]⟩
  cases i with
  | zero=>simp at hx hy; subst hx hy; exact h3
  | succ i=>exact hr i x y (by simpa using hx) (by simpa using hy)
noncomputable def Rt(o:Out)(Q:D->Prop):Prop:=∃ d,o=.rt d/\Q d
noncomputable def Nx(o:Out)(Q:aS->Prop):Prop:=∃ ρ,o=.nx ρ/\Q ρ
theorem nL{f g:SF}{ρ:aS}{Q:D->Prop}(M:aS->Prop)(h1:Nx (f ρ) M)(h2:∀ ρ',M ρ'->Rt (g ρ') Q):Rt (aJ f g ρ) Q:=by obtain ⟨ρ',e,m⟩:=h1; unfold aJ; rw [e]; exact h2 ρ' m
theorem CF{f g:SF}{ρ:aS}{Q:aS->Prop}(M:aS->Prop)(h1:Nx (f ρ) M)(h2:∀ ρ',M ρ'->Nx (g ρ') Q):Nx (aJ f g ρ) Q:=by obtain ⟨ρ',e,m⟩:=h1; unfold aJ; rw [e]; exact h2 ρ' m
theorem cD{f g:SF}{ρ:aS}{Q:D->Prop}(ρ':aS)(h1:f ρ=.nx ρ')(h2:Rt (g ρ') Q):Rt (aJ f g ρ) Q:=by unfold aJ; rw [h1]; exact h2
theorem rF{f g:SF}{ρ:aS}{Q:aS->Prop}(ρ':aS)(h1:f ρ=.nx ρ')(h2:Nx (g ρ') Q):Nx (aJ f g ρ) Q:=by unfold aJ; rw [h1]; exact h2
theorem aAE{t:TF}{a b:SF}{ρ:aS}{Q:aS->Prop}(c:Bool)(h:t (bU ρ)=some c)(h1:c=true->Nx (a ρ) Q)(h2:c=false->Nx (b ρ) Q):Nx (i6 t a b ρ) Q:=by unfold i6; rw [h]; cases c; exact h2 rfl; exact h1 rfl
theorem nM{f:EF}{ρ:aS}{Q:D->Prop}(d:D)(h:f (bU ρ)=some d)(q:Q d):Rt (bF f ρ) Q:=⟨d,gW h,q⟩
theorem HI{i:Nat}{f:EF}{ρ:aS}{Q:aS->Prop}(d:D)(h:f (kC ρ)=some d)(q:Q (ρ.set i (.ro d))):Nx (aT i f ρ) Q:=⟨_,fM d h rfl,q⟩
theorem Q9{ρ:aS}{Q:aS->Prop}(q:Q ρ):Nx (eP ρ) Q:=⟨ρ,rfl,q⟩
theorem xG{it:AF}{g:QY}{b:SF}{ρ:aS}{Q:aS->Prop}(ds:List D)(P:Nat->aS->Prop)(h:it (kC ρ)=some ds)(h0:P 0 ρ)(step:∀ (i:Nat) (d:D) (ρ:aS),ds[i]? = some d->P i ρ -> ∃ ρ1,g d ρ=some ρ1/\Nx (b ρ1) (P (i+1)))
  (fin:∀ ρ',P ds.length ρ'->Q ρ'):Nx (dZ it g b ρ) Q:=by
 obtain ⟨ρ',e,p⟩:=EM (g:=g) (b:=b) P ds h0 λi d ρ hd hp=>by obtain ⟨ρ1,e1,ρ2,e2,p2⟩:=step i d ρ hd hp;exact ⟨ρ1,ρ2,e1,e2,p2⟩
 exact ⟨ρ',Q5 ds h e,fin ρ' p⟩
theorem qB{t:AF}{g:QY}{b:SF}{ρ:aS}{Q:aS->Prop}(n:Nat)(P:Nat->aS->Prop)(h:t (kC ρ)=some [.int (n:Int)])(hn:n<4611686018427387904)(h0:P 0 ρ)(step:∀ (i:Nat) (ρ:aS),i<n->P i ρ -> ∃ ρ1,g (.int (i:Int)) ρ=some ρ1/\Nx (b ρ1) (P (i+1)))
  (fin:∀ ρ',P n ρ'->Q ρ'):Nx (dZ (bM t) g b ρ) Q:=by
 refine xG ((aW 0 n).map D.int) P (by unfold bM; rw [h,Option.bind_some,rD hn]) h0 (λi d ρ hd hp=>?_) (λρ' p=>fin ρ' (by simpa [aN] using p));have hi:i<n:=by have:=(List.getElem?_eq_some_iff.mp hd).1;simpa [aN] using this
 rw [getElem?_map,iP hi] at hd;have hd:D.int (0+(i:Int))=d:=by simpa using hd
 subst hd;obtain ⟨ρ1,e,q⟩:=step i ρ hi hp;exact ⟨ρ1,by rw [Int.zero_add]; exact e,q⟩
theorem tH{n np:Nat}{b:SF}{ds:List D}{Q:D->Prop}(hl:ds.length=np)(h:Rt (b (eF n ds)) Q):∃ d,cU n np b ds=.ok d/\Q d:=by obtain ⟨d,e,q⟩:=h; exact ⟨d,gG hl e,q⟩
theorem AJ:∀ (l:List Int) (j:Nat),(l.map D.int).eraseIdx j=(l.eraseIdx j).map D.int
 | [],j=>by simp
 | a::l,0=>by simp
 | a::l,j+1=>by simp [AJ l j]
theorem bW{g:D->D->Option D}{a b:EF}{ρ:cJ}{z:Option D}{x y:D}(ha:a ρ=some x)(hb:b ρ=some y)(h:g x y=z):aE g a b ρ=z:=by unfold aE; rw [ha,hb]; exact h
theorem e9{g:List D->Option D}{a:EF}{ρ:cJ}{z:Option D}{x:D}(ha:a ρ=some x)(h:g [x]=z):cN g (aA a aC) ρ=z:=by unfold cN aA aC; rw [ha]; exact h
theorem aDP{g:List D->Option D}{a b:EF}{ρ:cJ}{z:Option D}{x y:D}(ha:a ρ=some x)(hb:b ρ=some y)(h:g [x,y]=z):cN g (aA a (aA b aC)) ρ=z:=by unfold cN aA aC; rw [ha,hb]; exact h
theorem gX{f:gD}{a:EF}{ρ:cJ}{d x:D}(ha:a ρ=some x)(h:f [x]=.ok d):aI f (aA a aC) ρ=some d:=by unfold aI aA aC; rw [ha]; show EG (f [x])=_; rw [h]; rfl
theorem dP{f:gD}{a b:EF}{ρ:cJ}{d x y:D}(ha:a ρ=some x)(hb:b ρ=some y)(h:f [x,y]=.ok d):aI f (aA a (aA b aC)) ρ=some d:=by unfold aI aA aC; rw [ha,hb]; show EG (f [x,y])=_; rw [h]; rfl
theorem jR{f:gD}{a b c:EF}{ρ:cJ}{d x y z:D}(ha:a ρ=some x)(hb:b ρ=some y)(hc:c ρ=some z)(h:f [x,y,z]=.ok d):aI f (aA a (aA b (aA c aC))) ρ=some d:=by unfold aI aA aC; rw [ha,hb,hc]; show EG (f [x,y,z])=_; rw [h]; rfl
theorem HJ{f:gD}{a b c e:EF}{ρ:cJ}{d x y z w:D}(ha:a ρ=some x)(hb:b ρ=some y)(hc:c ρ=some z)(he:e ρ=some w)(h:f [x,y,z,w]=.ok d):aI f (aA a (aA b (aA c (aA e aC)))) ρ=some d:=by unfold aI aA aC; rw [ha,hb,hc,he]; show EG (f [x,y,z,w])=_; rw [h]; rfl
theorem args1{a:EF}{ρ:cJ}{x:D}(ha:a ρ=some x):aA a aC ρ=some [x]:=by unfold aA aC; rw [ha]; rfl
theorem args2{a b:EF}{ρ:cJ}{x y:D}(ha:a ρ=some x)(hb:b ρ=some y):aA a (aA b aC) ρ=some [x,y]:=by unfold aA aC; rw [ha,hb]; rfl
theorem aAF{a:EF}{ρ:cJ}{n:Nat}(ha:a ρ=some (.int (n:Int)))(hn:n<4611686018427387904):bM (aA a aC) ρ=some ((aW 0 n).map D.int):=by unfold bM; rw [args1 ha,Option.bind_some,rD hn]
theorem AK{f:EF}{ρ:cJ}{d:D}{b:Bool}(h:f ρ=some d)(ht:nE d=some b):tV f ρ=some b:=by unfold tV; rw [h]; exact ht
theorem tnE{t:TF}{ρ:cJ}{b c:Bool}(h:t ρ=some b)(hc:(!b)=c):iZ t ρ=some c:=by unfold iZ; rw [h,<- hc]; rfl
theorem aDQ{t u:TF}{ρ:cJ}{b c:Bool}(h:t ρ=some b)(h2:b=true->u ρ=some c)(h3:b=false->c=false):uY t u ρ=some c:=by
 unfold uY; rw [h]; cases b
 .rw [h3 rfl]; rfl
 .exact h2 rfl
theorem aDR{t u:TF}{ρ:cJ}{b c:Bool}(h:t ρ=some b)(h2:b=false->u ρ=some c)(h3:b=true->c=true):zF t u ρ=some c:=by
 unfold zF; rw [h]; cases b
 .exact h2 rfl
 .rw [h3 rfl]; rfl
theorem XO{l:List Int}{i:Int}{y:Int}(h0:0<=i)(h1:i<l.length)(h2:l.length<=16777216)(hy:l[i.toNat]? = some y):XD (l.map D.int) (.int i)=some ((l.eraseIdx i.toNat).map D.int,.int y):=by show (if i.natAbs<9223372036854775808 then _ else _)=_;rw [if_pos (by omega),length_map,xF h0 h1,Option.bind_some,getElem?_map,hy,AJ];rfl
theorem mC{ws:List Int}{j:Nat}{x:Int}(h:ws[j]? = some x):zH (ws.map D.int) (j:Int)=some (.int x):=by rw [vO,CD h]; rfl
theorem RA{α:Type}{l:List α}{i j:Nat}{x:α}(h:l[i]? = some x)(hij:i<j):(l.take j)[i]? = some x:=by rw [List.getElem?_take_of_lt hij]; exact h
theorem lD:∀ ns:List Int,qZ (ns.map D.int)=true
 | []=>rfl
 | n::ns=>by rw [map_cons,qZ,lD ns]; rfl
theorem qC{k q:Sum Int Str}{ks:List (Sum Int Str)}{d:D}{ds:List D}:kD (q::ks) (d::ds) k=if q=k then some d else kD ks ds k:=by
 by_cases e:q=k
 .simp [kD,e]
 .simp [kD,e]
theorem tI:∀ {word:List Int} {us:List (List Int)} {i:Nat} {x:Int} {v:List Int},word.Nodup->word[i]? = some x->us[i]? = some v->kD (word.map Sum.inl) (us.map aG) (Sum.inl x)=some (aG v)
 | [],us,i,x,v,_,h,_=>by simp at h
 | w::ws,[],i,x,v,_,_,h=>by simp at h
 | w::ws,u::us,0,x,v,_,h1,h2=>by simp at h1 h2;subst h1 h2;rw [map_cons,map_cons,qC,if_pos rfl]
 | w::ws,u::us,i+1,x,v,hn,h1,h2=>by
  obtain ⟨n1,n2⟩:=List.nodup_cons.mp hn;have h1':ws[i]? = some x:=by simpa using h1
  have ne:(Sum.inl w:Sum Int Str)≠Sum.inl x:=λe=>n1 (by cases e; exact mem_of_getElem? h1');rw [map_cons,map_cons,qC,if_neg ne];exact tI n2 h1' (by simpa using h2)
theorem AL:∀ {word:List Int} {us:List (List Int)} {x:Int},x∉word->kD (word.map Sum.inl) (us.map aG) (Sum.inl x)=none
 | [],us,x,_=>by simp [kD]
 | w::ws,[],x,_=>by simp [kD]
 | w::ws,u::us,x,h=>by have ne:(Sum.inl w:Sum Int Str)≠Sum.inl x:=λe=>h (by cases e; exact mem_cons_self);rw [map_cons,map_cons,qC,if_neg ne];exact AL λz=>h (mem_cons_of_mem _ z)
theorem insI_perm(a:Int):∀ l:List Int,(insI a l).Perm (a::l)
 | []=>.refl _
 | b::l=>by
  unfold insI;split
  .exact .refl _
  .exact ((insI_perm a l).cons b).trans (.swap a b l)
theorem sortI_perm:∀ l:List Int,(sortI l).Perm l
 | []=>.refl _
 | a::l=>(insI_perm a (sortI l)).trans ((sortI_perm l).cons a)
theorem uH(a:Int):∀ l:List Int,l.Pairwise (· <= ·)->(insI a l).Pairwise (· <= ·)
 | [],_=>by simp [insI]
 | b::l,h=>by
  unfold insI;split
  .rename_i hab;refine List.pairwise_cons.mpr ⟨λc hc=>?_,h⟩;rcases List.mem_cons.mp hc with e | e
   .subst e; exact hab
   .exact Int.le_trans hab ((List.pairwise_cons.mp h).1 c e)
  .rename_i hab;refine List.pairwise_cons.mpr ⟨λc hc=>?_,uH a l (List.pairwise_cons.mp h).2⟩;rcases List.mem_cons.mp ((insI_perm a l).mem_iff.mp hc) with e | e
   .subst e; omega
   .exact (List.pairwise_cons.mp h).1 c e
theorem mD:∀ l:List Int,(sortI l).Pairwise (· <= ·)
 | []=>List.Pairwise.nil
 | a::l=>uH a _ (mD l)
local macro_rules | `(tactic| walk_at "ev") => `(tactic| simp only [eF, aJ, i6, bF, aT, pR, iT, QX, mW, EI, sX, dZ, eP, aB, eC, aE, tV, iZ, uY, zF, mY, Z8, zG, QV, EE, G9, aC, aA, cN, aI, EG, jO, cK, bM, mV, aAe, MY, g1, g2, pF, QN, AD, cL, benv, eSl, oNo, oE, asInt, bX, p4, lY, bU, kC, Sv.all, Sv.rd, map_cons, map_nil, List.getElem?_cons_zero, getElem?_cons_succ, List.getElem?_nil, Option.join_some, Option.join_none, Option.bind_some, Option.bind_none, Option.map_some, Option.map_none, List.set_cons_zero, List.set_cons_succ, List.set_nil, length_cons, length_nil, length_map, cons_append, nil_append, replicate_succ, List.replicate_zero, Nat.reduceSub, Nat.reduceAdd, Nat.reduceEqDiff, lC, p9, qA, w9, W8, nI, wZ, B5, B6, B7, rB, kE, vK, sV, oQ, B8, wK, vL, vM, B9, rC, lB, w8, p7, p8, sW, sY, sZ, tD, tE, tF, xA, xB, if_true, if_false, ite_true, ite_false, reduceIte, decide_true, decide_false, decide_eq_true_eq, Bool.false_eq_true, Bool.not_true, Bool.not_false, mB, rE])
theorem rG(ns:List Int)(k:Int):∃ c,dU [.kZ ns,.int k]=.ok (.int c):=by
 unfold dU;by_cases h:(ns.length:Int)=0
 .exact ⟨0,gG rfl (CA (QO (by walk_at "ev"; rw [decide_eq_true h]) rfl))⟩
 .obtain ⟨x,_,e,_⟩:=CC (xs:=ns) (i:=k % (ns.length:Int)) (Int.emod_nonneg _ (by omega)) (Int.emod_lt_of_pos _ (by omega));refine ⟨x,gG rfl (dN _ (xC (by walk_at "ev"; rw [decide_eq_false h]) rfl) (gW ?_))⟩
  walk_at "ev"
  rw [dI (by omega)]
  walk_at "ev"
  rw [e]; rfl
noncomputable def RB(c k s:Int):Int:=(c+11*k*k+17*k+s)*48271 % 2147483647
noncomputable def aDS(c k s:Int):Int:=(RB c k s*(RB c k s / 4096+5)+29*k+s) % 2147483629
theorem EN(c k s:Int)(h0:0<=k)(h1:k<1000000):∃ r,0<=r/\eG [.int c,.int k,.int s]=.ok (.int r):=by
 unfold eG;have ha:0<=RB c k s:=Int.emod_nonneg ((c+11*k*k+17*k+s)*48271) (b:=2147483647) (by decide);have hb:RB c k s<2147483647:=Int.emod_lt_of_pos ((c+11*k*k+17*k+s)*48271) (b:=2147483647) (by decide);refine ⟨aDS c k s*39373 % 1000000007,Int.emod_nonneg _ (b:=1000000007) (by decide),gG rfl (dN _ (fM (.int (RB c k s)) ?_ rfl) (dN _ (fM (.int (aDS c k s)) ?_ rfl) (gW ?_)))⟩
 .walk_at "ev"
  rw [nK (by decide)]
  walk_at "ev"
  rw [xE (by omega),nK (i:=17) (by decide)]
  walk_at "ev"
  rw [xE (j:=48271) (by decide)]
  walk_at "ev"
  rw [dI (by decide)];rfl
 .walk_at "ev"
  rw [nJ (by decide) (by decide)]
  walk_at "ev"
  rw [nK (by omega),nK (i:=29) (by decide)]
  walk_at "ev"
  rw [dI (by decide)];rfl
 .walk_at "ev"
  rw [xE (j:=39373) (by decide)]
  walk_at "ev"
  rw [dI (by decide)]
theorem AM(xs:List Int)(x:Int):D.lst (xs.map D.int++[.int x])=aG (xs++[x]):=by simp [aG]
theorem rH(c many s:Int)(h0:0<=many)(h1:many<1000000):∃ xs:List Int,xs.length=many.toNat/\(∀ x∈xs,0<=x)/\dM [.int c,.int many,.int s]=.ok (aG xs):=by
 unfold dM;have key:∀ left:Int,∃ ρ',gT (pF 5) (i6 (tV (aE J8 (aB 4) (eC (.int 0))))
    (aJ (sX (p4 3 jQ (bX (aE iN (aB 4) (eC (.int 64))))))
    (aT 4 (aE uZ (aB 4) (eC (.int 64)))))
    (sX (p4 3 jQ (bX (aI LL.eG (aA (aB 0) (aA (aB 5) (aA (aB 2) aC))))))))
    ((aW 0 many.toNat).map D.int) [Sv.ro (.int c),Sv.ro (.int many),Sv.ro (.int s),Sv.ow (.lst []),Sv.ro (.int left),Sv.no]=.nx ρ' /\
    ∃ (xs:List Int) (l:Int) (v:Sv),xs.length=many.toNat/\(∀ x∈xs,0<=x)/\ρ' = [Sv.ro (.int c),Sv.ro (.int many),Sv.ro (.int s),Sv.ow (aG xs),Sv.ro (.int l),v]:=by
  intro left;refine Q7 (λi ρ'=>∃ (xs:List Int) (l:Int) (v:Sv),xs.length=i/\(∀ x∈xs,0<=x)/\ρ' = [Sv.ro (.int c),Sv.ro (.int many),Sv.ro (.int s),Sv.ow (aG xs),Sv.ro (.int l),v]) 0 _ ⟨[],left,_,rfl,by simp,rfl⟩ ?_;rintro i _ hi ⟨xs,l,v,hx,hn,rfl⟩;have hlen:(xs.map D.int).length<16777216:=by rw [length_map]; omega
  by_cases hl:0<l
  .refine ⟨_,_,rfl,QO (by walk_at "ev"; rw [decide_eq_true hl]) (dN [Sv.ro (.int c),Sv.ro (.int many),Sv.ro (.int s),Sv.ow (aG (xs++[l % 64])),Sv.ro (.int l),Sv.ro (.int (0+(i:Int)))] ?_ (fM (.int (l / 64)) ?_ rfl)),xs++[l % 64],l / 64,_,by simp [hx],?_,rfl⟩
   .walk_at "ev"
    rw [dI (by decide)]
    walk_at "ev"
    simp only [aG,lY]
    walk_at "ev"
    rw [vN hlen]
    walk_at "ev"
    rw [AM];rfl
   .walk_at "ev"
    rw [nJ (by decide) (by decide)]
   .intro x hx;rcases List.mem_append.mp hx with h | h
    .exact hn x h
    .rw [List.mem_singleton.mp h]; exact Int.emod_nonneg _ (by decide)
  .obtain ⟨r,hr,e⟩:=EN c (0+(i:Int)) s (by omega) (by omega);refine ⟨_,[Sv.ro (.int c),Sv.ro (.int many),Sv.ro (.int s),Sv.ow (aG (xs++[r])),Sv.ro (.int l),Sv.ro (.int (0+(i:Int)))],rfl,xC (by walk_at "ev"; rw [decide_eq_false hl]) ?_,xs++[r],l,_,by simp [hx],?_,rfl⟩
   .walk_at "ev"
    rw [e];simp only [aG,lY]
    walk_at "ev"
    rw [vN hlen]
    walk_at "ev"
    rw [AM];rfl
   .intro x hx;rcases List.mem_append.mp hx with h | h
    .exact hn x h
    .rw [List.mem_singleton.mp h]; exact hr
 have hp:pX (.int 10) (.int 18)=some (.int 1000000000000000000):=rfl;have fin:∀ left:Int,(0=0) -> ∃ xs:List Int,xs.length=many.toNat/\(∀ x∈xs,0<=x)/\aJ (dZ (bM (aA (aB 1) aC)) (pF 5) (i6 (tV (aE J8 (aB 4) (eC (.int 0))))
    (aJ (sX (p4 3 jQ (bX (aE iN (aB 4) (eC (.int 64))))))
    (aT 4 (aE uZ (aB 4) (eC (.int 64)))))
    (sX (p4 3 jQ (bX (aI LL.eG (aA (aB 0) (aA (aB 5) (aA (aB 2) aC))))))))) (bF (aB 3)) [Sv.ro (.int c),Sv.ro (.int many),Sv.ro (.int s),Sv.ow (.lst []),Sv.ro (.int left),Sv.no]=.rt (aG xs):=by
  intro left _;obtain ⟨ρ',e,xs,l,v,h1',h2',rfl⟩:=key left;refine ⟨xs,h1',h2',dN _ (Q5 _ ?_ e) (gW rfl)⟩
  walk_at "ev"
  exact EL (by omega)
 by_cases hc:1000000000000000000<=c
 .obtain ⟨xs,a,b,e⟩:=fin c rfl;refine ⟨xs,a,b,gG rfl (dN _ rfl (dN _ rfl (dN _ (QO ?_ rfl) e)))⟩
  walk_at "ev"
  rw [hp]
  walk_at "ev"
  rw [decide_eq_true hc]
 .obtain ⟨xs,a,b,e⟩:=fin 0 rfl;refine ⟨xs,a,b,gG rfl (dN _ rfl (dN _ rfl (dN _ (xC ?_ rfl) e)))⟩
  walk_at "ev"
  rw [hp]
  walk_at "ev"
  rw [decide_eq_false hc]
theorem RC(dr:List Int)(n:Nat)(th:Int)(hn:n<=9)(hl:n+Ord.tri n<=dr.length) :
  ∃ d,i7 [aG dr,.int n,.int th]=.ok d /\ ∃ rows:List (List Int),rows.length=n/\Ord.Rows rows/\d=aO rows:=by
 unfold i7;refine tH rfl ?_;rw [show eF 11 [aG dr,.int n,.int th]=[Sv.ro (aG dr),Sv.ro (.int n),Sv.ro (.int th),Sv.no,Sv.no,Sv.no,Sv.no,Sv.no,Sv.no,Sv.no,Sv.no] from rfl];refine cD [Sv.ro (aG dr),Sv.ro (.int n),Sv.ro (.int th),Sv.ow (.lst ((aW 0 n).map D.int)),Sv.no,Sv.no,Sv.no,Sv.no,Sv.no,Sv.no,Sv.no] ?_ ?_
 .walk_at "ev"
  simp only [pZ]
  walk_at "ev"
  rw [if_pos (by omega)];rfl
 refine cD [Sv.ro (aG dr),Sv.ro (.int n),Sv.ro (.int th),Sv.ow (.lst ((aW 0 n).map D.int)),Sv.ow (.lst []),Sv.no,Sv.no,Sv.no,Sv.no,Sv.no,Sv.no] rfl ?_;refine nL (λρ=>∃ (word:List Int) (kv v3:Sv),word.Perm (aW 0 n)/\ρ=[Sv.ro (aG dr),Sv.ro (.int n),Sv.ro (.int th),v3,Sv.ow (aG word),kv,Sv.no,Sv.no,Sv.no,Sv.no,Sv.no]) ?_ ?_
 .refine qB n (λi ρ=>∃ (rest word:List Int) (kv:Sv),word.length=i/\(word++rest).Perm (aW 0 n)/\ρ=[Sv.ro (aG dr),Sv.ro (.int n),Sv.ro (.int th),Sv.ow (aG rest),Sv.ow (aG word),kv,Sv.no,Sv.no,Sv.no,Sv.no,Sv.no])
   rfl (by omega) ⟨aW 0 n,[],Sv.no,rfl,.refl _,rfl⟩ ?_ ?_
  .rintro i _ hi ⟨rest,word,kv,hw,hp,rfl⟩;have hlr:word.length+rest.length=n:=by have:=hp.length_eq;rw [List.length_append,aN] at this;exact this
   obtain ⟨x,hx⟩:∃ x,dr[i]? = some x:=⟨_,getElem?_eq_getElem (by omega)⟩;have hr0:(0:Int)<rest.length:=by omega
   have h0:=Int.emod_nonneg x (show (rest.length:Int)≠0 by omega);have h1:=Int.emod_lt_of_pos x hr0;obtain ⟨y,hy⟩:∃ y,rest[(x % (rest.length:Int)).toNat]? = some y:=⟨_,getElem?_eq_getElem (by omega)⟩;refine ⟨_,rfl,[Sv.ro (aG dr),Sv.ro (.int n),Sv.ro (.int th),Sv.ow (aG (rest.eraseIdx (x % (rest.length:Int)).toNat)),Sv.ow (aG (word++[y])),Sv.ro (.int i),Sv.no,Sv.no,Sv.no,Sv.no,Sv.no],?_,rest.eraseIdx (x % (rest.length:Int)).toNat,word++[y],Sv.ro (.int i),by simp [hw],?_,rfl⟩
   .have e1:=XO h0 h1 (by omega) hy;simp only [aG]
    walk_at "ev"
    simp only [uF]
    walk_at "ev"
    rw [mC hx]
    walk_at "ev"
    rw [dI hr0]
    walk_at "ev"
    simp only [D.AB,ite_true,Option.bind_some]
    walk_at "ev"
    rw [e1]
    walk_at "ev"
    rw [vN (by rw [length_map]; omega)]
    walk_at "ev"
    rw [map_append];rfl
   .rw [List.append_assoc];exact ((Ord.wV rest _ y hy).append_left word).trans hp
  .rintro _ ⟨rest,word,kv,hw,hp,rfl⟩;have hlr:word.length+rest.length=n:=by have:=hp.length_eq;rw [List.length_append,aN] at this;exact this
   have e:rest=[]:=List.length_eq_zero_iff.mp (by omega);subst e;rw [append_nil] at hp;exact ⟨word,kv,_,hp,rfl⟩
 rintro _ ⟨word,kv,v3,hp,rfl⟩;have hpw:word.Perm ((List.range n).map λk:Nat=>(k:Int)):=by
  have e:aW 0 n=(List.range n).map λk:Nat=>(k:Int):=map_congr_left λk _=>by show 0+(k:Int)=k; omega
  rw [<- e];exact hp
 have hlw:word.length=n:=by rw [hpw.length_eq,length_map,length_range]
 have ndw:word.Nodup:=hpw.nodup_iff.mpr (List.Pairwise.map _ (λa b hab e=>hab (by omega)) List.nodup_range);have aAi:∀ {us:List (List Int)} (t:Nat) (u:List Int),Ord.Under word us t u->u.length<=n:=λ{us} t u h=>by rw [<- hlw];exact Ord.dH u word h.1 λa ha=>by obtain ⟨s,_,_,h2,_⟩:=h.2 a ha; exact mem_of_getElem? h2
 refine cD [Sv.ro (aG dr),Sv.ro (.int n),Sv.ro (.int th),v3,Sv.ow (aG word),kv,Sv.ow (.kA [] []),Sv.no,Sv.no,Sv.no,Sv.no] rfl ?_;refine cD [Sv.ro (aG dr),Sv.ro (.int n),Sv.ro (.int th),v3,Sv.ow (aG word),kv,Sv.ow (.kA [] []),Sv.ro (.int n),Sv.no,Sv.no,Sv.no] rfl ?_;refine nL (λρ=>∃ (us:List (List Int)) (v7 v8 v9 v10:Sv),us.length=n/\Ord.Good word us/\ρ=[Sv.ro (aG dr),Sv.ro (.int n),Sv.ro (.int th),v3,Sv.ow (aG word),kv,Sv.ow (.kA (word.map Sum.inl) (us.map aG)),v7,v8,v9,v10]) ?_ ?_
 .refine qB n (λj ρ=>∃ (us:List (List Int)) (v8 v9 v10:Sv),us.length=j/\Ord.Good word us/\ρ=[Sv.ro (aG dr),Sv.ro (.int n),Sv.ro (.int th),v3,Sv.ow (aG word),kv,Sv.ow (.kA ((word.take j).map Sum.inl) (us.map aG)),Sv.ro (.int ((n+Ord.tri j:Nat):Int)),v8,v9,v10])
   rfl (by omega) ⟨[],Sv.no,Sv.no,Sv.no,rfl,(λt u e=>by simp at e),rfl⟩ ?_ ?_
  .rintro j _ hj ⟨us,v8,v9,v10,hul,hg,rfl⟩;refine ⟨_,rfl,?_⟩;refine rF [Sv.ro (aG dr),Sv.ro (.int n),Sv.ro (.int th),v3,Sv.ow (aG word),kv,Sv.ow (.kA ((word.take j).map Sum.inl) (us.map aG)),Sv.ro (.int ((n+Ord.tri j:Nat):Int)),Sv.ro (.int j),Sv.ro (.lst []),v10] rfl ?_;refine CF (λρ=>∃ (u:List Int) (v10:Sv),Ord.Under word us j u/\ρ=[Sv.ro (aG dr),Sv.ro (.int n),Sv.ro (.int th),v3,Sv.ow (aG word),kv,Sv.ow (.kA ((word.take j).map Sum.inl) (us.map aG)),Sv.ro (.int ((n+Ord.tri (j+1):Nat):Int)),Sv.ro (.int j),Sv.ro (aG u),v10]) ?_ ?_
   .refine qB j (λi ρ=>∃ (u:List Int) (v10:Sv),Ord.Under word us i u/\ρ=[Sv.ro (aG dr),Sv.ro (.int n),Sv.ro (.int th),v3,Sv.ow (aG word),kv,Sv.ow (.kA ((word.take j).map Sum.inl) (us.map aG)),Sv.ro (.int ((n+Ord.tri j+i:Nat):Int)),Sv.ro (.int j),Sv.ro (aG u),v10])
     rfl (by omega) ⟨[],_,⟨nodup_nil,λa ha=>(nomatch ha)⟩,rfl⟩ ?_ ?_
    .rintro i _ hi ⟨u,v10,hU,rfl⟩;have tl:=Ord.aAh hj hi;obtain ⟨y,hy⟩:∃ y,dr[n+Ord.tri j+i]? = some y:=⟨_,getElem?_eq_getElem (by omega)⟩;obtain ⟨x,hx⟩:∃ x,word[i]? = some x:=⟨_,getElem?_eq_getElem (by omega)⟩;obtain ⟨v,hv⟩:∃ v,us[i]? = some v:=⟨_,getElem?_eq_getElem (by omega)⟩;have lv:=aAi _ _ (hg i v hv);have lu:=aAi _ _ hU;refine ⟨_,rfl,?_⟩;refine CF (λρ=>∃ u':List Int,Ord.Under word us (i+1) u'/\ρ=[Sv.ro (aG dr),Sv.ro (.int n),Sv.ro (.int th),v3,Sv.ow (aG word),kv,Sv.ow (.kA ((word.take j).map Sum.inl) (us.map aG)),Sv.ro (.int ((n+Ord.tri j+i:Nat):Int)),Sv.ro (.int j),Sv.ro (aG u'),Sv.ro (.int i)]) ?_ ?_
     .refine aAE (decide (y % 4<th)) ?_ (λ_=>?_) (λ_=>Q9 ⟨u,hU.mono (by omega),rfl⟩)
      .simp only [aG]
       walk_at "ev"
       rw [mC hy]
       walk_at "ev"
       rw [dI (by decide)]
       walk_at "ev"
      .refine ⟨_,?_,_,hU.step ndw hg hx hv,rfl⟩;have hf:=length_filter_le (λa=>!u.contains a) (v++[x]);have e1:jP (g1 0) (tV (aE (oP true) (aB 0) (aB 1))) (aB 0) [none,some (.lst (u.map D.int))] ((v++[x]).map D.int)=some (((v++[x]).filter λa=>!u.contains a).map D.int) :=
        kF D.int _ D.int (v++[x]) λa _=>⟨_,rfl,by walk_at "ev",λ_=>rfl⟩
       have e2:aE dB (aE wM (aB 6) (aE eE (aB 4) (aB 10))) (eM (aA (aE eE (aB 4) (aB 10)) aC)) [some (aG dr),some (.int n),some (.int th),v3.all,some (aG word),kv.all,some (.kA ((word.take j).map Sum.inl) (us.map aG)),some (.int ((n+Ord.tri j+i:Nat):Int)),some (.int j),some (aG u),some (.int i)]=some (.lst ((v++[x]).map D.int)):=by
        simp only [aG]
        walk_at "ev"
        rw [mC hx]
        walk_at "ev"
        simp only [wM,wL,Option.bind_some];have:=tI (List.Nodup.sublist (List.take_sublist j word) ndw) (RA hx hi) hv;simp only [aG] at this;rw [this];simp only [eM]
        walk_at "ev"
        rw [mC hx]
        walk_at "ev"
        rw [if_pos (by decide),Option.bind_some,xD (by simp; omega)];simp
       have e3:bQ 1 [9] (cK (aE dB (aE wM (aB 6) (aE eE (aB 4) (aB 10))) (eM (aA (aE eE (aB 4) (aB 10)) aC)))) (g1 0) (tV (aE (oP true) (aB 0) (aB 1))) (aB 0) [some (aG dr),some (.int n),some (.int th),v3.all,some (aG word),kv.all,some (.kA ((word.take j).map Sum.inl) (us.map aG)),some (.int ((n+Ord.tri j+i:Nat):Int)),some (.int j),some (aG u),some (.int i)]=some (.lst (((v++[x]).filter λa=>!u.contains a).map D.int)) :=
        iO ((v++[x]).map D.int) (by unfold cK; rw [e2]; rfl) (by simp; omega) e1
       unfold mW;have e4:aE MX (aB 9) (bQ 1 [9] (cK (aE dB (aE wM (aB 6) (aE eE (aB 4) (aB 10))) (eM (aA (aE eE (aB 4) (aB 10)) aC)))) (g1 0) (tV (aE (oP true) (aB 0) (aB 1))) (aB 0)) [some (aG dr),some (.int n),some (.int th),v3.all,some (aG word),kv.all,some (.kA ((word.take j).map Sum.inl) (us.map aG)),some (.int ((n+Ord.tri j+i:Nat):Int)),some (.int j),some (aG u),some (.int i)]=some (aG (u++(v++[x]).filter λa=>!u.contains a)):=by refine bW (x:=aG u) rfl e3 ?_;show MX (.lst (u.map D.int)) _=_;rw [Q6 (by simp only [length_map,List.length_append,length_cons,length_nil] at hf ⊢; omega),<- map_append];rfl
       rw [show bU _=[some (aG dr),some (.int n),some (.int th),v3.all,some (aG word),kv.all,some (.kA ((word.take j).map Sum.inl) (us.map aG)),some (.int ((n+Ord.tri j+i:Nat):Int)),some (.int j),some (aG u),some (.int i)] from rfl,e4];show (if p5 (aG _)=true then _ else _)=_;rw [if_pos (show p5 (aG _)=true from lD _)];rfl
     rintro _ ⟨u',hU',rfl⟩;exact ⟨_,rfl,u',_,hU',rfl⟩
    .rintro _ ⟨u,v10,hU,rfl⟩;exact ⟨u,v10,hU,by rw [Nat.add_assoc]; rfl⟩
   rintro _ ⟨u,v10,hU,rfl⟩;obtain ⟨x,hx⟩:∃ x,word[j]? = some x:=⟨_,getElem?_eq_getElem (by omega)⟩;refine ⟨[Sv.ro (aG dr),Sv.ro (.int n),Sv.ro (.int th),v3,Sv.ow (aG word),kv,Sv.ow (.kA ((word.take (j+1)).map Sum.inl) ((us++[u]).map aG)),Sv.ro (.int ((n+Ord.tri (j+1):Nat):Int)),Sv.ro (.int j),Sv.ro (aG u),v10],?_,us++[u],Sv.ro (.int j),Sv.ro (aG u),v10,by simp [hul],hg.snoc (by rw [hul]; exact hU),rfl⟩;have hno:kD ((word.take j).map Sum.inl) (us.map aG) (Sum.inl x)=none:=AL λhm=>by
    obtain ⟨t,ht⟩:=List.mem_iff_getElem?.mp hm;have htl:t<j:=by have:=(List.getElem?_eq_some_iff.mp ht).1;rw [length_take] at this;omega
    rw [List.getElem?_take_of_lt htl] at ht;have:=Ord.wW ndw ht hx;omega
   unfold KC
   walk_at "ev"
   simp only [wQ,Option.bind_some];have e5:eE (aG word) (.int (j:Int))=some (.int x):=mC hx;rw [e5];simp only [Option.bind_some,wL,hno,Option.isNone_none,true_and];rw [if_pos (by rw [length_map]; show us.length<16777216; omega),List.take_succ,hx,map_append,map_append];rfl
  .rintro _ ⟨us,v8,v9,v10,hul,hg,rfl⟩;refine ⟨us,Sv.ro (.int ((n+Ord.tri n:Nat):Int)),v8,v9,v10,hul,hg,?_⟩;rw [take_of_length_le (by omega)]
 rintro _ ⟨us,v7,v8,v9,v10,hul,hg,rfl⟩;have ec:∃ rows:List (List Int),rows.length=(List.range n).length/\(∀ (i:Nat) (b:Nat) (r:List Int),(List.range n)[i]? = some b->rows[i]? = some r -> ∀ (t:Nat) (u:List Int),word[t]? = some (b:Int)->us[t]? = some u->r.Perm u/\r.Pairwise (· <= ·)) /\
   jP (g1 0) cL (cN cQ (aA (cN fQ (aA (aE wM (aB 1) (aB 0)) aC)) aC)) [none,some (.kA (word.map Sum.inl) (us.map aG))] ((List.range n).map λb:Nat=>D.int (b:Int))=some (rows.map tupI):=by
  refine Q8 (λb:Nat=>D.int (b:Int)) tupI _ (List.range n) λb hb=>?_;have hb2:=List.mem_range.mp hb;have hm:(b:Int)∈word:=hpw.mem_iff.mpr (List.mem_map.mpr ⟨b,hb,rfl⟩);obtain ⟨t,ht⟩:=List.mem_iff_getElem?.mp hm;obtain ⟨u,hu2⟩:∃ u,us[t]? = some u:=⟨_,getElem?_eq_getElem (by have:=(List.getElem?_eq_some_iff.mp ht).1; omega)⟩;have lu:=aAi _ _ (hg t u hu2);refine ⟨_,sortI u,rfl,?_,λt' u' e1 e2=>?_⟩
  .walk_at "ev"
   simp only [wM,wL,Option.bind_some];rw [tI ndw ht hu2];simp only [aG]
   walk_at "ev"
   rw [sorted_ints (by omega)];rfl
  .have e:=Ord.wW ndw e1 ht;subst e;rw [hu2] at e2;cases e2;exact ⟨sortI_perm u,mD u⟩
 obtain ⟨rows,hr1,hr2,ec⟩:=ec;rw [length_range] at hr1;refine nM (aO rows) ?_ ⟨rows,hr1,hg.rows hul hpw hr1 λb t r u e1 e2 e3=>hr2 b b r (by rw [getElem?_range (by have:=(List.getElem?_eq_some_iff.mp e1).1; omega)]) e1 t u e2 e3,rfl⟩;have e6:(aW 0 n).map D.int=(List.range n).map λb:Nat=>D.int (b:Int):=by unfold aW;rw [map_map];exact map_congr_left λb _=>by show D.int (0+(b:Int))=_; rw [Int.zero_add]
 have e7:=iO (nl:=1) (fr:=[6]) (it:=bM (aA (aB 1) aC)) (g:=g1 0) (t:=cL) (e:=cN cQ (aA (cN fQ (aA (aE wM (aB 1) (aB 0)) aC)) aC)) (ρ:=bU [Sv.ro (aG dr),Sv.ro (.int n),Sv.ro (.int th),v3,Sv.ow (aG word),kv,Sv.ow (.kA (word.map Sum.inl) (us.map aG)),v7,v8,v9,v10]) ((aW 0 n).map D.int)
  (by walk_at "ev"; exact rD (by omega)) (by rw [length_map,aN]; omega) (by rw [e6]; exact ec)
 exact e9 e7 rfl
theorem XQ(n:Nat):2*Ord.tri n+n=n*n:=by
 induction n with
 | zero=>rfl
 | succ n ih =>
  show 2*(Ord.tri n+n)+(n+1)=(n+1)*(n+1);have:(n+1)*(n+1)=n*n+2*n+1:=by rw [Nat.add_mul,Nat.mul_add]; omega
  omega
theorem xH(ns:List Int)(k m s:Int)(h0:0<=m)(h1:m<=9) :
  ∃ d,dS [.kZ ns,.int k,.int m,.int s]=.ok d /\ ∃ rows:List (List Int),(rows.length:Int)<=m/\Ord.Rows rows/\d=aO rows:=by
 unfold dS;refine tH rfl ?_;obtain ⟨c1,ec1⟩:=rG ns k;obtain ⟨xs,hx,hxn,ex⟩:=rH c1 4 s (by decide) (by decide);obtain ⟨c2,ec2⟩:=rG ns (k+1);obtain ⟨a,b,r,rfl⟩:∃ a b r,xs=a::b::r:=by
  match xs,hx with
  | a::b::r,_=>exact ⟨a,b,r,rfl⟩
 have hm0:=Int.emod_nonneg a (show m+1≠0 by omega);have hm1:=Int.emod_lt_of_pos a (show 0<m+1 by omega);obtain ⟨n,hn⟩:∃ n:Nat,a % (m+1)=(n:Int):=⟨(a % (m+1)).toNat,by omega⟩;have hn9:n<=9:=by omega
 have et:=XQ n;have hq:(n:Int)*((n:Int) - 1) / 2=(Ord.tri n:Int):=by
  have:(n:Int)*((n:Int) - 1)=2*(Ord.tri n:Int):=by
   have e2:((n*n:Nat):Int)=(n:Int)*n:=by simp
   rw [Int.mul_sub,Int.mul_one];omega
  rw [this,Int.mul_ediv_cancel_left _ (by decide)]
 have aP8:Ord.tri n<=36:=Ord.Q4 hn9;obtain ⟨ys,hy,hyn,ey⟩:=rH c2 ((n:Int)+Ord.tri n) (s+10007) (by omega) (by omega);refine cD _ (fM (aG (a::b::r)) (jR (dP rfl rfl ec1) rfl rfl ex) rfl) ?_;refine cD _ (fM (.int n) ?_ rfl) ?_
 .simp only [aG]
  walk_at "ev"
  rw [show zH (D.int a::D.int b::r.map D.int) 0=some (D.int a) from CD (k:=0) rfl]
  walk_at "ev"
  rw [dI (by omega),hn]
 refine cD _ (fM (aG ys) (jR (dP rfl rfl ec2) ?_ rfl ey) rfl) ?_
 .walk_at "ev"
  rw [nK (by omega)]
  walk_at "ev"
  rw [nJ (by decide) (by decide),hq]
  walk_at "ev"
 have hb0:=Int.emod_nonneg b (show (8:Int)≠0 by decide);have hb1:=Int.emod_lt_of_pos b (show (0:Int)<8 by decide);have hth:∃ th:Int,aE eE (eM (aA (eC (.int 1)) (aA (eC (.int 1)) (aA (eC (.int 2)) (aA (eC (.int 2)) (aA (eC (.int 3)) (aA (eC (.int 1)) (aA (eC (.int 0)) (aA (eC (.int 4)) aC))))))))) (aE iN (aE eE (aB 4) (eC (.int 1))) (eC (.int 8))) [some (.kZ ns),some (.int k),some (.int m),some (.int s),some (aG (a::b::r)),some (.int n),some (aG ys)]=some (.int th):=by
  obtain ⟨x,hx,e,_⟩:=CC (xs:=[(1:Int),1,2,2,3,1,0,4]) (i:=b % 8) hb0 hb1;refine ⟨x,bW (x:=.lst ([(1:Int),1,2,2,3,1,0,4].map D.int)) rfl (y:=.int (b % 8)) ?_ ?_⟩
  .refine bW (x:=.int b) (y:=.int 8) ?_ rfl (dI (by decide));simp only [aG]
   walk_at "ev"
   exact CD (k:=1) rfl
  .rw [vL,vO,e]; rfl
 obtain ⟨th,eth⟩:=hth;obtain ⟨d,ed,rows,hr1,hr2,rfl⟩:=RC ys n th hn9 (by omega);exact nM (aO rows) (jR rfl rfl eth ed) ⟨rows,by omega,hr2,rfl⟩
noncomputable def xI:gD:=cU 2 2
  (bF (cN cQ (aA (bQ 2 [1] (mV (aA (aB 0) aC)) (g2 0 1) (tV (aE (oP false) (aB 2) (aB 1))) (aB 0)) aC)))
noncomputable def kQ:gD:=cU 1 1
  (bF (cN cQ (aA (bQ 1 [0] (bM (aA (cN cR (aA (aB 0) aC)) aC)) (g1 0) cL (aI LL.xI (aA (aB 1) (aA (aB 0) aC)))) aC)))
noncomputable def RD:Nat->D->Prop
 | 0,_=>False
 | n+1,.tup ds=>ds.length<=1000000 /\ ∀ d∈ds,RD n d
 | _+1,.int _=>True
 | _+1,.bl _=>True
 | _+1,.non=>True
 | _+1,.str _=>True
 | _+1,_=>False
theorem isi{T:String}{f:EF}{ρ:cJ}{d:D}(h:f ρ=some d)(hn:HC d=true:=by rfl):jO T f ρ=some (.bl (HB T d)):=by unfold jO; rw [h]; exact if_pos hn
theorem same_refl:∀ (n:Nat) (d:D),RD n d->bI n [d,d]=.ok (.bl true)
 | 0,_,h=>h.elim
 | n+1,.tup ds,h=>by
  have hl:=h.1;unfold bI;refine gG rfl (CA (QO (by unfold tV; rw [isi rfl]; rfl) (dN _ (xC ?_ rfl) (gW ?_))))
  .simp only [eF,aJ,i6,bF,aT,pR,iT,QX,mW,EI,sX,dZ,eP,aB,eC,aE,tV,iZ,uY,zF,mY,Z8,zG,QV,EE,G9,aC,aA,cN,aI,EG,jO,cK,bM,mV,aAe,MY,g1,g2,pF,QN,AD,cL,benv,eSl,oNo,oE,asInt,bX,p4,lY,bU,kC,Sv.all,Sv.rd,map_cons,map_nil,List.getElem?_cons_zero,getElem?_cons_succ,List.getElem?_nil,Option.join_some,Option.join_none,Option.bind_some,Option.bind_none,Option.map_some,Option.map_none,List.set_cons_zero,List.set_cons_succ,List.set_nil,length_cons,length_nil,length_map,cons_append,nil_append,replicate_succ,List.replicate_zero,Nat.reduceSub,Nat.reduceAdd,Nat.reduceEqDiff,lC,p9,qA,w9,W8,nI,wZ,B5,B6,B7,rB,kE,vK,sV,oQ,B8,wK,vL,vM,B9,rC,lB,w8,p7,p8,sW,sY,sZ,tD,tE,tF,xA,xB,if_true,if_false,ite_true,ite_false,reduceIte,decide_true,decide_false,decide_eq_true_eq,Bool.false_eq_true,Bool.not_true,Bool.not_false,mB,rE];simp [HB,tyM,eF,bU,jO,HC,aB,Sv.all,nE]
  .have e1:=iO (nl:=1) (fr:=[0,1]) (it:=bM (aA (cN cR (aA (aB 1) aC)) aC)) (g:=g1 0) (t:=cL) (e:=aI (bI n) (aA (aE eE (aB 1) (aB 0)) (aA (aE eE (aB 2) (aB 0)) aC))) (ρ:=[some (.tup ds),some (.tup ds)]) ((aW 0 ds.length).map D.int) (ys:=(aW 0 ds.length).map λ_=>D.bl true)
    (by simp only [eF,aJ,i6,bF,aT,pR,iT,QX,mW,EI,sX,dZ,eP,aB,eC,aE,tV,iZ,uY,zF,mY,Z8,zG,QV,EE,G9,aC,aA,cN,aI,EG,jO,cK,bM,mV,aAe,MY,g1,g2,pF,QN,AD,cL,benv,eSl,oNo,oE,asInt,bX,p4,lY,bU,kC,Sv.all,Sv.rd,map_cons,map_nil,List.getElem?_cons_zero,getElem?_cons_succ,List.getElem?_nil,Option.join_some,Option.join_none,Option.bind_some,Option.bind_none,Option.map_some,Option.map_none,List.set_cons_zero,List.set_cons_succ,List.set_nil,length_cons,length_nil,length_map,cons_append,nil_append,replicate_succ,List.replicate_zero,Nat.reduceSub,Nat.reduceAdd,Nat.reduceEqDiff,lC,p9,qA,w9,W8,nI,wZ,B5,B6,B7,rB,kE,vK,sV,oQ,B8,wK,vL,vM,B9,rC,lB,w8,p7,p8,sW,sY,sZ,tD,tE,tF,xA,xB,if_true,if_false,ite_true,ite_false,reduceIte,decide_true,decide_false,decide_eq_true_eq,Bool.false_eq_true,Bool.not_true,Bool.not_false,mB,rE]; exact rD (by omega)) (by rw [length_map,aN]; omega) (AI D.int (λ_=>D.bl true) (aW 0 ds.length) λk hk=>by have hk:=bG.mp hk;obtain ⟨x,hx,e,_⟩:=CC (xs:=ds) (i:=k) (by omega) (by omega);show aI (bI n) _ _=_;exact dP (bW rfl rfl e) (bW rfl rfl e) (same_refl n x (h.2 x hx)))
   refine e9 e1 ?_;have:(aW 0 ds.length).map (λ_=>D.bl true)=((aW 0 ds.length).map λ_=>true).map D.bl:=by rw [map_map]; rfl
   rw [this,CB];congr 2;simp
 | n+1,.int i,_=>by unfold bI;refine gG rfl (dN _ (xC rfl rfl) (dN _ (xC rfl rfl) (dN _ (xC rfl rfl) (CA (QO rfl (gW ?_))))));show mY _ _ _=_;simp [mY,zG,jO,HC,aB,HB,tyM,uE,aE,kE,sV,oQ,eF,bU,Sv.all]
 | n+1,.bl b,_=>by unfold bI;refine gG rfl (dN _ (xC rfl rfl) (dN _ (xC rfl rfl) (CA (QO rfl (gW ?_)))));simp [mY,zG,jO,HC,aB,HB,tyM,uE,aE,kE,sV,oQ,eF,bU,Sv.all]
 | n+1,.non,_=>by unfold bI;exact gG rfl (dN _ (xC rfl rfl) (CA (QO rfl (gW rfl))))
 | n+1,.str x,_=>by unfold bI;refine gG rfl (dN _ (xC rfl rfl) (dN _ (xC rfl rfl) (dN _ (xC rfl rfl) (dN _ (xC rfl rfl) (gW ?_)))));simp [mY,zG,jO,HC,aB,HB,tyM,uE,aE,kE,sV,oQ,eF,bU,Sv.all]
 | n+1,.lst _,h=>h.elim
 | n+1,.kZ _,h=>h.elim
 | n+1,.kA _ _,h=>h.elim
 | n+1,.eD _ _ _,h=>h.elim
 | n+1,.exc _ _,h=>h.elim
noncomputable def row(rows:List (List Int))(b:Int):List Int:=(rows[b.toNat]?).getD []
theorem CG{rows:List (List Int)}{i:Int}(h0:0<=i)(h1:i<rows.length):eE (aO rows) (.int i)=some (tupI (row rows i)):=by
 have hl:i.toNat<rows.length:=by omega
 rw [show aO rows=.tup (rows.map tupI) from rfl,vM,vO];unfold zH row;rw [xF h0 h1];simp [hl]
theorem aAj{i:Int}{xs:List Int}:oP false (.int i) (tupI xs)=some (.bl (xs.contains i)):=by unfold tupI; rw [mB]; rfl
theorem XR{i:Int}{xs:List Int}:oP true (.int i) (tupI xs)=some (.bl (!xs.contains i)):=by unfold tupI; rw [mB]; rfl
theorem fR{rows:List (List Int)}:cR [aO rows]=some (.int rows.length):=by unfold aO; rw [lB,length_map]
theorem EO{xs:List Int}:cR [tupI xs]=some (.int xs.length):=by unfold tupI; rw [lB,length_map]
theorem zipIdx_map{α β:Type}(f:α->β)(l:List α)(m:Nat):(l.map f).zipIdx m=(l.zipIdx m).map λp=>(f p.1,p.2):=by
 induction l generalizing m with
 | nil=>rfl
 | cons a l ih=>simp [List.zipIdx_cons,ih]
noncomputable def RE(rows:List (List Int))(a b:Int):Bool:=!decide (a=b)&&(!(row rows b).contains a && !(row rows a).contains b)
noncomputable def pairD(p:Int×Int):D:=.tup [.int p.1,.int p.2]
noncomputable def XS(rows:List (List Int))(a:Int):List (Int×Int):=((aW (a+1) (rows.length - (a+1)).toNat).filter λb=>RE rows a b).map λb=>(a,b)
noncomputable def loose(rows:List (List Int)):List (Int×Int):=(aW 0 rows.length).flatMap (XS rows)
end LL
end
section
namespace Ord
noncomputable def can(n:Nat)(R:Nat->Nat->Bool):List (List Int):=(List.range n).map λb=>((List.range n).filter λa=>R a b).map λa:Nat=>(a:Int)
noncomputable def rel(rows:List (List Int))(a b:Nat):Bool:=(rows.getD b []).contains (a:Int)
theorem mE(n:Nat)(R:Nat->Nat->Bool):(can n R).length=n:=by simp [can]
theorem CH{n:Nat}{R:Nat->Nat->Bool}{b:Nat}(hb:b<n):(can n R)[b]? = some (((List.range n).filter λa=>R a b).map λa:Nat=>(a:Int)):=by unfold can;rw [getElem?_map,getElem?_range hb];rfl
theorem vP{n:Nat}{R:Nat->Nat->Bool}{a b:Nat}:(a:Int)∈(((List.range n).filter λa=>R a b).map λa:Nat=>(a:Int))↔a<n/\R a b=true:=by
 constructor
 .intro h;obtain ⟨c,hc,e⟩:=List.mem_map.mp h;have e2:c=a:=by omega
  subst e2;obtain ⟨h1,h2⟩:=List.mem_filter.mp hc;exact ⟨List.mem_range.mp h1,h2⟩
 .rintro ⟨h1,h2⟩;exact List.mem_map.mpr ⟨a,List.mem_filter.mpr ⟨List.mem_range.mpr h1,h2⟩,rfl⟩
theorem up_eq:∀ (l m:List Int),l.Pairwise (·<·)->m.Pairwise (·<·)->(∀ x,x∈l↔x∈m)->l=m
 | [],[],_,_,_=>rfl
 | [],b::m,_,_,h=>by have:=(h b).mpr mem_cons_self; cases this
 | a::l,[],_,_,h=>by have:=(h a).mp mem_cons_self; cases this
 | a::l,b::m,hl,hm,h=>by
  obtain ⟨l1,l2⟩:=List.pairwise_cons.mp hl;obtain ⟨m1,m2⟩:=List.pairwise_cons.mp hm;have e:a=b:=by
   have h1:=List.mem_cons.mp ((h a).mp mem_cons_self);have h2:=List.mem_cons.mp ((h b).mpr mem_cons_self);rcases h1 with h1 | h1
   .exact h1
   .rcases h2 with h2 | h2
    .exact h2.symm
    .have:=m1 a h1;have:=l1 b h2;omega
  subst e;congr 1;refine up_eq l m l2 m2 λx=>⟨λhx=>?_,λhx=>?_⟩
  .rcases List.mem_cons.mp ((h x).mp (mem_cons_of_mem _ hx)) with h1 | h1
   .have:=l1 x hx; omega
   .exact h1
  .rcases List.mem_cons.mp ((h x).mpr (mem_cons_of_mem _ hx)) with h1 | h1
   .have:=m1 x hx; omega
   .exact h1
theorem HK{n:Nat}{R:Nat->Nat->Bool}{b:Nat}:(((List.range n).filter λa=>R a b).map λa:Nat=>(a:Int)).Pairwise (·<·):=by refine List.Pairwise.map _ (λa b h=>?_) (List.Pairwise.filter _ pairwise_lt_range);show (a:Int)<(b:Int);omega
theorem Rows.can{rows:List (List Int)}(h:Rows rows):rows=Ord.can rows.length (rel rows):=by
 refine ext_getElem? λb=>?_;by_cases hb:b<rows.length
 .rw [CH hb,getElem?_eq_getElem hb];have e:rows[b]? = some rows[b]:=getElem?_eq_getElem hb;congr 1;refine up_eq _ _ (h.up b _ e) HK λx=>⟨λhx=>?_,λhx=>?_⟩
  .obtain ⟨h0,h1⟩:=h.rng b _ e x hx;obtain ⟨a,rfl⟩:∃ a:Nat,x=(a:Int):=⟨x.toNat,by omega⟩;refine vP.mpr ⟨by omega,?_⟩;unfold rel;rw [getD_eq_getElem?_getD,e]; simpa using hx
  .obtain ⟨a,ha,rfl⟩:=List.mem_map.mp hx;have:=(List.mem_filter.mp ha).2;unfold rel at this;rw [getD_eq_getElem?_getD,e] at this;simpa using this
 .rw [getElem?_eq_none (by omega),getElem?_eq_none (by rw [mE]; omega)]
theorem RF{n:Nat}{R:Nat->Nat->Bool}(W3:∀ a,a<n->R a a=false)(tr:∀ a b c,a<n->b<n->c<n->R a b=true->R b c=true->R a c=true):Rows (Ord.can n R):=by
 have row:∀ {b:Nat} {r:List Int},(Ord.can n R)[b]? = some r->b<n/\r=(((List.range n).filter λa=>R a b).map λa:Nat=>(a:Int)):=λ{b r} e=>by
  have hb:b<n:=by have:=(List.getElem?_eq_some_iff.mp e).1; rw [mE] at this; exact this
  rw [CH hb] at e;exact ⟨hb,(Option.some.inj e).symm⟩
 refine ⟨λb r e=>?_,λb r e x hx=>?_,λb a r v e ha ev c hc=>?_,λb r e hb=>?_⟩
 .rw [(row e).2]; exact HK
 .rw [(row e).2] at hx;obtain ⟨a,ha,rfl⟩:=List.mem_map.mp hx;have:=List.mem_range.mp (List.mem_filter.mp ha).1;rw [mE];omega
 .obtain ⟨hb,er⟩:=row e;obtain ⟨hav,ev2⟩:=row ev;rw [er] at ha ⊢;rw [ev2] at hc;obtain ⟨c',hc',rfl⟩:=List.mem_map.mp hc;obtain ⟨c1,c2⟩:=List.mem_filter.mp hc';have c1:=List.mem_range.mp c1;obtain ⟨_,a2⟩:=vP.mp ha;exact vP.mpr ⟨c1,tr _ _ _ c1 hav hb c2 a2⟩
 .obtain ⟨hb',er⟩:=row e;rw [er] at hb;have:=(vP.mp hb).2;rw [W3 b hb'] at this;cases this
theorem Rows.aAk{rows:List (List Int)}(h:Rows rows){a:Nat}(ha:a<rows.length):rel rows a a=false:=by unfold rel;rw [getD_eq_getElem?_getD,getElem?_eq_getElem ha];have:=h.W3 a _ (getElem?_eq_getElem ha);simpa using this
theorem Rows.tr'{rows:List (List Int)}(h:Rows rows){a b c:Nat}(hb:b<rows.length)(hc:c<rows.length)(h1:rel rows a b=true)(h2:rel rows b c=true):rel rows a c=true:=by
 unfold rel at *;rw [getD_eq_getElem?_getD,getElem?_eq_getElem hb] at h1;rw [getD_eq_getElem?_getD,getElem?_eq_getElem hc] at h2 ⊢;have h1:(a:Int)∈rows[b]:=by simpa using h1
 have h2:(b:Int)∈rows[c]:=by simpa using h2
 have:=h.tr c b _ _ (getElem?_eq_getElem hc) h2 (getElem?_eq_getElem hb) _ h1;simpa using this
noncomputable def side(x y:List (List Int)):List (List Int):=can (x.length+y.length) λa b=>if a<x.length then (if b<x.length then rel x a b else false) else (if b<x.length then false else rel y (a - x.length) (b - x.length))
theorem Rows.side{x y:List (List Int)}(hx:Rows x)(hy:Rows y):Rows (side x y):=by
 refine RF (λa ha=>?_) λa b c ha hb hc h1 h2=>?_
 .by_cases h:a<x.length
  .simp only [h,if_true]; exact hx.aAk h
  .simp only [h,if_false]; exact hy.aAk (by omega)
 .by_cases p:a<x.length<;>by_cases q:b<x.length<;>by_cases r:c<x.length<;>simp only [p,q,r,if_true,if_false] at h1 h2 ⊢
  .exact hx.tr' q r h1 h2
  .cases h2
  .cases h1
  .cases h1
  .cases h1
  .cases h1
  .cases h2
  .exact hy.tr' (by omega) (by omega) h1 h2
end Ord
end
section
namespace Ord
theorem rJ{x:List (List Int)}{a b:Nat}{r:List Int}(h:x[b]? = some r):rel x a b=true↔(a:Int)∈r:=by unfold rel;rw [getD_eq_getElem?_getD,h];simp
theorem aAl{L:List (List Int)}{n:Nat}{R:Nat->Nat->Bool}(hl:L.length=n)(hup:∀ (b:Nat) (r:List Int),L[b]? = some r->r.Pairwise (·<·))
  (hm:∀ (b:Nat) (r:List Int),L[b]? = some r -> ∀ z:Int,z∈r ↔ ∃ a:Nat,z=(a:Int)/\a<n/\R a b=true):L=can n R:=by
 refine ext_getElem? λb=>?_;by_cases hb:b<n
 .have e:L[b]? = some (L[b]'(by omega)):=getElem?_eq_getElem (by omega);rw [CH hb,e];congr 1;refine up_eq _ _ (hup b _ e) HK λz=>?_;rw [hm b _ e z,mem_map]
  constructor
  .rintro ⟨a,rfl,h1,h2⟩;exact ⟨a,List.mem_filter.mpr ⟨List.mem_range.mpr h1,h2⟩,rfl⟩
  .rintro ⟨a,h,rfl⟩;obtain ⟨h1,h2⟩:=List.mem_filter.mp h;exact ⟨a,rfl,List.mem_range.mp h1,h2⟩
 .rw [getElem?_eq_none (by omega),getElem?_eq_none (by rw [mE]; omega)]
noncomputable def shift(m:Int)(r:List Int):List Int:=r.map λz=>z+m
theorem RG{m:Int}{r:List Int}(h:r.Pairwise (·<·)):(shift m r).Pairwise (·<·):=List.Pairwise.map _ (λa b (hab:a<b)=>by omega) h
theorem AN{m z:Int}{r:List Int}:z∈shift m r↔z - m∈r:=by
 unfold shift;rw [mem_map]
 constructor
 .rintro ⟨w,hw,rfl⟩; rwa [Int.add_sub_cancel]
 .intro h; exact ⟨z - m,h,by omega⟩
theorem HL{y:List (List Int)}(h:Rows y){b m:Nat}{v:List Int}(hv:y[b]? = some v){z:Int}:z∈shift m v ↔ ∃ a:Nat,z=(a:Int)/\m<=a/\a<m+y.length/\rel y (a - m) b=true:=by
 rw [AN]
 constructor
 .intro hz;obtain ⟨q1,q2⟩:=h.rng _ _ hv _ hz;refine ⟨z.toNat,by omega,by omega,by omega,?_⟩;rw [rJ hv,show ((z.toNat - m:Nat):Int)=z - m by omega];exact hz
 .rintro ⟨a,rfl,h1,h2,h3⟩;rw [rJ hv,show ((a - m:Nat):Int)=(a:Int) - m by omega] at h3;exact h3
theorem RH{y:List (List Int)}(h:Rows y){b:Nat}{v:List Int}(hv:y[b]? = some v){z:Int}:z∈v ↔ ∃ a:Nat,z=(a:Int)/\a<y.length/\rel y a b=true:=by
 constructor
 .intro hz;obtain ⟨q1,q2⟩:=h.rng _ _ hv _ hz;refine ⟨z.toNat,by omega,by omega,?_⟩;rw [rJ hv,show ((z.toNat:Nat):Int)=z by omega];exact hz
 .rintro ⟨a,rfl,h1,h2⟩
  rwa [rJ hv] at h2
theorem KJ{x y:List (List Int)}{f g:List Int->List Int}{b:Nat}{r:List Int}(e:(x.map f++y.map g)[b]? = some r) :
  (b<x.length /\ ∃ v,x[b]? = some v/\r=f v)\/(¬ b<x.length/\b<x.length+y.length /\ ∃ v,y[b - x.length]? = some v/\r=g v):=by
 by_cases hb:b<x.length
 .left
  rw [getElem?_append_left (by simpa using hb),getElem?_map,getElem?_eq_getElem hb] at e;exact ⟨hb,_,getElem?_eq_getElem hb,(Option.some.inj e).symm⟩
 .right
  rw [getElem?_append_right (by simpa using hb),getElem?_map,length_map] at e
  cases q:y[b - x.length]? with
  | none=>rw [q] at e; cases e
  | some v =>
   rw [q] at e;have:=(List.getElem?_eq_some_iff.mp q).1;exact ⟨hb,by omega,v,rfl,(Option.some.inj e).symm⟩
noncomputable def ER(x y:List (List Int)):List (List Int):=x.map id++y.map (shift x.length)
theorem ES{x y:List (List Int)}(hx:Rows x)(hy:Rows y):ER x y=side x y:=by
 refine aAl (by simp [ER]) (λb r e=>?_) λb r e z=>?_
 .rcases KJ e with ⟨hb,v,hv,rfl⟩ | ⟨hb,hb2,v,hv,rfl⟩
  .exact hx.up _ _ hv
  .exact RG (hy.up _ _ hv)
 .rcases KJ e with ⟨hb,v,hv,rfl⟩ | ⟨hb,hb2,v,hv,rfl⟩
  .rw [RH hx hv]
   constructor
   .rintro ⟨a,rfl,h1,h2⟩;exact ⟨a,rfl,by omega,by rw [if_pos h1,if_pos hb]; exact h2⟩
   .rintro ⟨a,rfl,h1,h2⟩;by_cases p:a<x.length
    .rw [if_pos p,if_pos hb] at h2; exact ⟨a,rfl,p,h2⟩
    .rw [if_neg p,if_pos hb] at h2; cases h2
  .rw [HL hy hv]
   constructor
   .rintro ⟨a,rfl,h1,h2,h3⟩;exact ⟨a,rfl,h2,by rw [if_neg (by omega),if_neg hb]; exact h3⟩
   .rintro ⟨a,rfl,h1,h2⟩;by_cases p:a<x.length
    .rw [if_pos p,if_neg hb] at h2; cases h2
    .rw [if_neg p,if_neg hb] at h2; exact ⟨a,rfl,by omega,h1,h2⟩
theorem aAm(lo:Int)(n:Nat):(L4.aW lo n).Pairwise (·<·):=List.Pairwise.map _ (λa b (h:a<b)=>by omega) pairwise_lt_range
end Ord
end
section
namespace K45
open PySem L3 L4
noncomputable def mZ:gD:=cU 2 2
  (bF (cN cQ (aA (bQ 1 [1] (MY (aA (aB 0) aC)) (g1 0) cL (aE fA (aE fA (aB 1) (eC (.int 1))) (aB 0))) aC)))
noncomputable def jS:gD:=cU 1 1
  (bF (cN cQ (aA (bQ 1 [0] (MY (aA (aB 0) aC)) (g1 0) cL (aI mZ (aA (aB 0) (aA (cN cR (aA (aB 1) aC)) aC)))) aC)))
noncomputable def rK:gD:=cU 3 1
  (aJ (aT 1 (eM aC))
  (aJ (dZ (bM (aA (cN cR (aA (aB 0) aC)) aC)) (pF 2)
   (aT 1 (aE dB (aB 1) (bQ 1 [2] (cK (aE eE (aB 0) (aB 2))) (g1 0) cL (lA (aA (aB 0) (aA (aB 1) aC)))))))
  (bF (cN kP (aA (aB 1) aC)))))
noncomputable def xJ:gD:=cU 2 2
  (bF (cN cQ (aA (bQ 1 [1] (bM (aA (aB 0) aC)) (g1 0) cL (cN cQ (aA (cN fQ (aA (bQ 2 [0] (cK (aB 1)) (g2 0 1) (tV (aE wJ (aB 1) (aB 2))) (aB 0)) aC)) aC))) aC)))
noncomputable def rL:gD:=cU 7 1
  (aJ (aT 1 (aI LL.dS (aA (aB 0) (aA (eC (.int 0)) (aA (eC (.int 9)) (aA (eC (.int 100003)) aC))))))
  (aJ (aT 2 (cN cR (aA (aB 1) aC)))
  (aJ (aT 3 (aI rK (aA (aB 1) aC)))
  (aJ (aT 4 (aI xJ (aA (aB 2) (aA (bQ 2 [2] (cK (aB 3)) (g2 0 1) cL (lA (aA (aE fA (aE fA (aB 2) (eC (.int 1))) (aB 0)) (aA (aE fA (aE fA (aB 2) (eC (.int 1))) (aB 1)) aC)))) aC))))
  (aJ (aT 5 (aI xJ (aA (aB 2) (aA (bQ 2 [] (cK (aB 3)) (g2 0 1) cL (lA (aA (aB 1) (aA (aB 0) aC)))) aC))))
  (aJ (aT 6 (aI xJ (aA (aB 2) (aA (bQ 2 [2] (cK (aB 3)) (g2 0 1) cL (lA (aA (aE fA (aE fA (aB 2) (eC (.int 1))) (aB 1)) (aA (aE fA (aE fA (aB 2) (eC (.int 1))) (aB 0)) aC)))) aC))))
  (aJ (i6 (zF (iZ (tV (aI (LL.bI 6) (aA (aI jS (aA (aB 1) aC)) (aA (aB 4) aC))))) (iZ (tV (aI (LL.bI 6) (aA (aI LL.kQ (aA (aB 1) aC)) (aA (aB 5) aC))))))
   (bF (eC (.bl false)))
   eP)
  (aJ (i6 (zF (iZ (tV (aI (LL.bI 6) (aA (aI jS (aA (aB 4) aC)) (aA (aB 1) aC))))) (iZ (tV (aI (LL.bI 6) (aA (aI LL.kQ (aA (aB 5) aC)) (aA (aB 1) aC))))))
   (bF (eC (.bl false)))
   eP)
  (bF (mY (aI (LL.bI 6) (aA (aI jS (aA (aB 5) aC)) (aA (aB 6) aC))) (aI (LL.bI 6) (aA (aI LL.kQ (aA (aB 4) aC)) (aA (aB 6) aC)))))))))))))
end K45
end
section
namespace K45
open PySem L3 L4 LL
noncomputable def pr(p:Int×Int):List Int:=[p.1,p.2]
noncomputable def fC(x:List (List Int))(k:Nat):List (Int×Int):=(aW 0 k).flatMap λb=>(row x b).map λa=>(a,b)
theorem qD(x:List (List Int))(k:Nat):fC x (k+1)=fC x k++(row x (k:Int)).map λa=>(a,(k:Int)):=by unfold fC;rw [M5,List.flatMap_append];simp
theorem nN{x:List (List Int)}{p:Int×Int}:p∈fC x x.length↔0<=p.2/\p.2<(x.length:Int)/\p.1∈row x p.2:=by
 unfold fC;rw [List.mem_flatMap]
 constructor
 .rintro ⟨b,hb,hp⟩;obtain ⟨a,ha,rfl⟩:=List.mem_map.mp hp;have:=bG.mp hb;exact ⟨by omega,by omega,ha⟩
 .rintro ⟨h0,h1,h2⟩;exact ⟨p.2,bG.mpr (by omega),List.mem_map.mpr ⟨p.1,h2,rfl⟩⟩
theorem iD{x:List (List Int)}{b:Int}(h0:0<=b)(h1:b<(x.length:Int)):x[b.toNat]? = some (row x b):=by
 have:b.toNat<x.length:=by omega
 unfold row;rw [getElem?_eq_getElem this];rfl
theorem ET{x:List (List Int)}{a b:Nat}(hb:b<x.length):(((a:Int),(b:Int))∈fC x x.length)↔Ord.rel x a b=true:=by
 rw [nN];have e:=iD (x:=x) (b:=(b:Int)) (by omega) (by omega);rw [Int.toNat_natCast] at e;rw [Ord.rJ e]
 constructor
 .rintro ⟨_,_,h⟩; exact h
 .intro h; exact ⟨by show (0:Int)<=(b:Int); omega,by show (b:Int)<_; omega,h⟩
theorem HM{x:List (List Int)}(hx:Ord.Rows x):(fC x x.length).Nodup:=by
 unfold fC;rw [List.Nodup,List.pairwise_flatMap]
 constructor
 .intro b hb;have hb:=bG.mp hb;have nd:(row x b).Nodup:=(hx.up _ _ (iD (by omega) (by omega))).imp λq=>by omega
  exact List.Pairwise.map _ (λa c h e=>h (congrArg Prod.fst e)) nd
 .refine (Ord.aAm 0 x.length).imp λ{b c} h p hp q hq e=>?_;obtain ⟨a,_,rfl⟩:=List.mem_map.mp hp;obtain ⟨a2,_,rfl⟩:=List.mem_map.mp hq;have:=congrArg Prod.snd e;simp at this;omega
theorem EU{x:List (List Int)}(hx:Ord.Rows x)(hn:x.length<=9):∀ k,k<=x.length->(fC x k).length<=k*8:=by
 intro k
 induction k with
 | zero=>intro _; simp [fC,aW]
 | succ k ih =>
  intro hk;rw [qD,List.length_append,length_map];have h1:=ih (by omega);have e:=iD (x:=x) (b:=(k:Int)) (by omega) (by omega);rw [Int.toNat_natCast] at e;have nd:(row x (k:Int)).Nodup:=(hx.up _ _ e).imp λq=>by omega
  have h2:((k:Int)::row x (k:Int)).length<=(aW 0 x.length).length:=Ord.dH _ _ (List.nodup_cons.mpr ⟨hx.W3 _ _ e,nd⟩) λa ha=>by
   rcases List.mem_cons.1 ha with rfl | ha
   .exact bG.mpr (by omega)
   .have:=hx.rng _ _ e a ha;exact bG.mpr (by omega)
  rw [aN,length_cons] at h2;omega
noncomputable def un(t:List Int):Int×Int:=(t.getD 0 0,t.getD 1 0)
noncomputable def srt(l:List (Int×Int)):List (Int×Int):=(uG (l.map pr)).map un
theorem RI(l:List (Int×Int)):(srt l).Perm l:=by have:=(lZ (l.map pr)).map un;rw [map_map] at this;have e:(un∘pr)=id:=funext λp=>rfl;rw [e,List.map_id] at this;exact this
theorem XT(l:List (Int×Int)):(uG (l.map pr)).map rA=(srt l).map pairD:=by unfold srt;rw [map_map];refine map_congr_left λt ht=>?_;obtain ⟨p,_,rfl⟩:=List.mem_map.mp ((lZ (l.map pr)).mem_iff.mp ht);rfl
theorem xK:∀ l:List (Int×Int),p6 (l.map pairD)=some (l.map pr)
 | []=>rfl
 | p::l=>by rw [map_cons,p6,xK l];rfl
theorem HN{l:List (Int×Int)}(h:l.length<64):kP [.lst (l.map pairD)]=some (.lst ((srt l).map pairD)):=by unfold kP;simp only [xK,Option.bind_some];rw [if_pos ⟨by simpa using h,List.all_eq_true.mpr λt ht=>by obtain ⟨p,_,rfl⟩:=List.mem_map.mp ht; rfl⟩,XT]
noncomputable def code(p:Int×Int):Int:=if p.1<p.2 then p.1*9+p.2 else p.2*9+p.1
noncomputable def codes:List Int:=(aW 0 9).flatMap λi=>(aW (i+1) (8 - i).toNat).map λj=>i*9+j
theorem xM{x:List (List Int)}(hx:Ord.Rows x){a b:Int}(h1:(a,b)∈fC x x.length)(h2:(b,a)∈fC x x.length):False:=by obtain ⟨b0,b1,h1'⟩:=nN.mp h1;obtain ⟨a0,a1,h2'⟩:=nN.mp h2;simp only at b0 b1 a0 a1 h1' h2';obtain ⟨m,rfl⟩:∃ m:Nat,a=(m:Int):=⟨a.toNat,by omega⟩;obtain ⟨k,rfl⟩:∃ k:Nat,b=(k:Int):=⟨b.toNat,by omega⟩;have:=hx.tr' (by omega) (by omega) ((ET (by omega)).mp h1) ((ET (by omega)).mp h2);rw [hx.aAk (by omega)] at this;cases this
theorem rM{a b c d:Int}(hb:0<=b/\b<9)(hd:0<=d/\d<9)(e:a*9+b=c*9+d):a=c/\b=d:=by omega
theorem XU{x:List (List Int)}(hx:Ord.Rows x)(hn:x.length<=9):(fC x x.length).length<=36:=by
 have rg:∀ p∈fC x x.length,0<=p.1/\p.1<9/\0<=p.2/\p.2<9/\p.1≠p.2:=λp hp=>by obtain ⟨h0,h1,h2⟩:=nN.mp hp;have e:=iD h0 h1;obtain ⟨q1,q2⟩:=hx.rng _ _ e _ h2;refine ⟨q1,by omega,h0,by omega,λz=>?_⟩;obtain ⟨a,b⟩:=p;simp only at z;subst z;exact xM hx hp hp
 have nd:((fC x x.length).map code).Nodup:=by
  rw [List.Nodup,pairwise_map];refine List.Pairwise.imp_of_mem (λ{p q} hp hq hpq e=>?_) (HM hx);have rp:=rg p hp;have rq:=rg q hq;obtain ⟨a,b⟩:=p;obtain ⟨c,d⟩:=q;simp only at rp rq;unfold code at e;simp only at e;by_cases h1:a<b<;>by_cases h2:c<d
  .rw [if_pos h1,if_pos h2] at e;obtain ⟨rfl,rfl⟩:=rM ⟨rp.2.2.1,rp.2.2.2.1⟩ ⟨rq.2.2.1,rq.2.2.2.1⟩ e;exact hpq rfl
  .rw [if_pos h1,if_neg h2] at e;obtain ⟨rfl,rfl⟩:=rM ⟨rp.2.2.1,rp.2.2.2.1⟩ ⟨rq.1,rq.2.1⟩ e;exact xM hx hp hq
  .rw [if_neg h1,if_pos h2] at e;obtain ⟨rfl,rfl⟩:=rM ⟨rp.1,rp.2.1⟩ ⟨rq.2.2.1,rq.2.2.2.1⟩ e;exact xM hx hp hq
  .rw [if_neg h1,if_neg h2] at e;obtain ⟨rfl,rfl⟩:=rM ⟨rp.1,rp.2.1⟩ ⟨rq.1,rq.2.1⟩ e;exact hpq rfl
 have:=Ord.dH _ codes nd λz hz=>by
  obtain ⟨p,hp,rfl⟩:=List.mem_map.mp hz;have:=rg p hp;unfold code codes;by_cases h:p.1<p.2
  .rw [if_pos h,List.mem_flatMap];exact ⟨p.1,bG.mpr (by omega),List.mem_map.mpr ⟨p.2,bG.mpr (by omega),rfl⟩⟩
  .rw [if_neg h,List.mem_flatMap];exact ⟨p.2,bG.mpr (by omega),List.mem_map.mpr ⟨p.1,bG.mpr (by omega),rfl⟩⟩
 rw [length_map] at this;have e:codes.length=36:=by decide +kernel
 omega
theorem RJ{x:List (List Int)}(hx:Ord.Rows x)(hn:x.length<=9):(fC x x.length).length<64:=by have:=XU hx hn;omega
end K45
end
section
namespace u9
open PySem L3 L4
noncomputable def eW:gD:=cU 4 1
  (aJ (iT 1 (eM aC))
  (aJ (dZ (mV (aA (aB 0) aC)) (QN 2 3)
   (sX (p4 1 MZ (bX (bQ 1 [2] (cK (aB 3)) (g1 0) cL (lA (aA (aB 0) (aA (aB 1) aC))))))))
  (bF (cN cQ (aA (cN kP (aA (aB 1) aC)) aC)))))
noncomputable def M6:gD:=cU 4 2
  (aJ (aT 2 (aE eE (aB 1) (eC (.int 0))))
  (aJ (aT 3 (aE eE (aB 1) (eC (.int 1))))
  (bF (zG (cN anyM (aA (bQ 1 [2,0] (cK (aE eE (aB 0) (aB 3))) (g1 0) cL (aE (oP false) (aB 1) (aE eE (aB 2) (aB 0)))) aC))))))
noncomputable def EV:gD:=cU 1 1
  (bF (cN cQ (aA (bQ 1 [0] (cK (aI eW (aA (aB 0) aC))) (g1 0) (tV (aI M6 (aA (aB 1) (aA (aB 0) aC)))) (aB 0)) aC)))
noncomputable def rK:gD:=cU 3 1
  (aJ (aT 1 (eM aC))
  (aJ (dZ (bM (aA (cN cR (aA (aB 0) aC)) aC)) (pF 2)
   (aT 1 (aE dB (aB 1) (bQ 1 [2] (cK (aE eE (aB 0) (aB 2))) (g1 0) cL (lA (aA (aB 0) (aA (aB 1) aC)))))))
  (bF (cN kP (aA (aB 1) aC)))))
noncomputable def HP:gD:=cU 9 2
  (aJ (iT 2 (eM aC))
  (aJ (dZ (bM (aA (aB 0) aC)) (pF 3)
   (aJ (iT 4 (eM aC))
   (aJ (iT 5 (eM (aA (aB 3) aC)))
   (aJ (sQ nG (tV (aE J8 (cN cR (aA (aB 5) aC)) (eC (.int 0))))
    (aJ (pR 6 (aDK 5))
    (dZ (cK (aB 1)) (QN 7 8)
     (i6 (uY (tV (aE wJ (aB 8) (aB 6))) (tV (aE (oP true) (aB 7) (aB 4))))
      (aJ (sX (p4 4 jQ (bX (aB 7))))
      (sX (p4 5 jQ (bX (aB 7)))))
      eP))))
   (aJ (i6 (tV (aE (oP false) (aB 3) (aB 4)))
    (bF (eC .non))
    eP)
   (sX (p4 2 jQ (uF (cN cQ (aA (cN fQ (aA (aB 4) aC)) aC))))))))))
  (bF (cN cQ (aA (aB 2) aC)))))
noncomputable def RK:gD:=cU 5 1
  (aJ (iT 1 (eM aC))
  (aJ (dZ (cK (aI rK (aA (aB 0) aC))) (QN 2 3)
   (aJ (aT 4 (bQ 1 [2,0,3] (bM (aA (cN cR (aA (aB 0) aC)) aC)) (g1 0) (uY (tV (aE (oP false) (aB 1) (aE eE (aB 2) (aB 0)))) (tV (aE (oP false) (aB 0) (aE eE (aB 2) (aB 3))))) (aB 0)))
   (i6 (tV (aE wJ (cN cR (aA (aB 4) aC)) (eC (.int 0))))
    (sX (p4 1 jQ (bX (lA (aA (aB 2) (aA (aB 3) aC))))))
    eP)))
  (bF (aB 1))))
noncomputable def tJ:gD:=cU 2 1
  (aJ (aT 1 (aI EV (aA (aB 0) aC)))
  (aJ (i6 (zF (iZ (tV (aI (LL.bI 6) (aA (aI eW (aA (aB 0) aC)) (aA (cN cQ (aA (aI rK (aA (aB 0) aC)) aC)) aC))))) (iZ (tV (aI (LL.bI 6) (aA (aB 1) (aA (cN cQ (aA (aI RK (aA (aB 0) aC)) aC)) aC))))))
   (bF (eC (.bl false)))
   eP)
  (bF (aE aDM (aI HP (aA (cN cR (aA (aB 0) aC)) (aA (aB 1) aC))) (aB 0)))))
noncomputable def rL:gD:=cU 3 1
  (aJ (aT 1 (aI LL.dS (aA (aB 0) (aA (eC (.int 0)) (aA (eC (.int 9)) (aA (eC (.int 100003)) aC))))))
  (aJ (aT 2 (aI LL.dS (aA (aB 0) (aA (eC (.int 2)) (aA (eC (.int 9)) (aA (eC (.int 300007)) aC))))))
  (bF (mY (aI tJ (aA (aB 1) aC)) (mY (aI tJ (aA (aB 2) aC)) (aI tJ (aA (aB 1) aC)))))))
end u9
end
section
namespace u9
open PySem L3 L4 LL K45
theorem sXE{x:XF}{ρ ρ':aS}{d:D}(h:x ρ=some (ρ',d)):sX x ρ=.nx ρ':=by unfold sX; rw [h]
theorem aHV{i:Nat}{m:List D->D->Option (List D×D)}{x:XF}{ρ ρ1:aS}{d:D}{ds0 ds:List D}{q:List D×D}(h0:lY ρ[i]? = some ds0)(hx:x ρ=some (ρ1,d))(h1:lY ρ1[i]? = some ds)(hm:m ds d=some q) :
  p4 i m x ρ=some (ρ1.set i (.ow (.lst q.1)),q.2):=by
 unfold p4;rw [h0,Option.bind_some,hx,Option.bind_some,h1,Option.bind_some,hm];rfl
section
variable{x:List (List Int)}(hx:Ord.Rows x)
include hx
theorem nO{a c:Int}(h0:0<=c)(h1:c<(x.length:Int))(h:a∈row x c):0<=a/\a<(x.length:Int):=hx.rng _ _ (iD h0 h1) a h
theorem aDW{a b c:Int}(h0:0<=c)(h1:c<(x.length:Int))(hb:b∈row x c)(ha:a∈row x b):a∈row x c:=by obtain ⟨b0,b1⟩:=nO hx h0 h1 hb;exact hx.tr c.toNat b.toNat _ _ (iD h0 h1) (by rw [show ((b.toNat:Nat):Int)=b by omega]; exact hb) (iD b0 b1) a ha
theorem aHW{c:Int}(h0:0<=c)(h1:c<(x.length:Int)):(row x c).Nodup:=(hx.up _ _ (iD h0 h1)).imp λq=>by omega
theorem RL{c:Int}(h0:0<=c)(h1:c<(x.length:Int)):(row x c).length<=x.length:=by
 have:=Ord.dH (row x c) (aW 0 x.length) (aHW hx h0 h1) λa ha=>bG.mpr (by have:=nO hx h0 h1 ha; omega)
 rwa [aN] at this
end
noncomputable def aAn(x:List (List Int))(p:Int×Int):Bool:=!(row x p.2).any λc=>(row x c).contains p.1
noncomputable def nw(c:Int):List (Int×Int)->List Int->List Int
 | [],_=>[]
 | p::ps,u=>if p.2=c/\p.1∉u then p.1::nw c ps (u++[p.1]) else nw c ps u
theorem xN(c:Int):∀ (ps:List (Int×Int)) (u:List Int),u.Nodup->(u++nw c ps u).Nodup
 | [],u,h=>by simpa [nw] using h
 | p::ps,u,h=>by
  unfold nw;split
  .rename_i q;have:=xN c ps (u++[p.1]) (List.nodup_append.mpr ⟨h,by simp,λa ha b hb e=>by
    have:b=p.1:=by simpa using hb
    exact q.2 (by rw [<- this,<- e]; exact ha)⟩)
   rwa [List.append_assoc] at this
  .exact xN c ps u h
theorem HQ(c:Int):∀ (ps:List (Int×Int)) (u:List Int) (a:Int),a∈nw c ps u->(a,c)∈ps
 | [],u,a,h=>by simp [nw] at h
 | p::ps,u,a,h=>by
  unfold nw at h;split at h
  .rename_i q;rcases List.mem_cons.1 h with rfl | h
   .rw [<- q.1]; exact mem_cons_self
   .exact mem_cons_of_mem _ (HQ c ps _ a h)
  .exact mem_cons_of_mem _ (HQ c ps _ a h)
theorem HR(c:Int):∀ (ps:List (Int×Int)) (u:List Int) (a:Int),(a,c)∈ps->a∈u++nw c ps u
 | [],u,a,h=>by cases h
 | p::ps,u,a,h=>by
  unfold nw;rcases List.mem_cons.1 h with e | h
  .subst e;by_cases hu:a∈u
   .exact mem_append_left _ hu
   .rw [if_pos ⟨rfl,hu⟩];exact mem_append_right _ mem_cons_self
  .split
   .have:=HR c ps (u++[p.1]) a h
    rwa [List.append_assoc] at this
   .exact HR c ps u a h
structure Cl (x:List (List Int)) (P:List (Int×Int)) (b:Int) (u f:List Int):Prop where
 nd:u.Nodup
 sub:∀ a∈u,a∈row x b
 fr:∀ a∈f,a=b\/a∈u
 cl:∀ c,(c=b\/c∈u)->c∉f -> ∀ a,(a,c)∈P->a∈u
theorem Cl.step{x:List (List Int)}(hx:Ord.Rows x){P:List (Int×Int)}(hP:∀ p∈P,p.1∈row x p.2){b:Int}(h0:0<=b)(h1:b<(x.length:Int)){u f:List Int}{c:Int}(h:Cl x P b u (f++[c])):Cl x P b (u++nw c P u) (f++nw c P u):=by
 refine ⟨xN c P u h.nd,λa ha=>?_,λa ha=>?_,λd hd hf a ha=>?_⟩
 .rcases List.mem_append.1 ha with ha | ha
  .exact h.sub a ha
  .have q:=hP _ (HQ c P u a ha);rcases h.fr c (by simp) with e | e
   .rw [<- e]; exact q
   .exact aDW hx h0 h1 (h.sub c e) q
 .rcases List.mem_append.1 ha with ha | ha
  .exact (h.fr a (mem_append_left _ ha)).imp id λz=>mem_append_left _ z
  .exact .inr (mem_append_right _ ha)
 .by_cases e:d=c
  .subst e;exact HR d P u a ha
  .refine mem_append_left _ (h.cl d ?_ (λz=>?_) a ha)
   .rcases hd with hd | hd
    .exact .inl hd
    .rcases List.mem_append.1 hd with hd | hd
     .exact .inr hd
     .exact absurd (mem_append_right _ hd) hf
   .rcases List.mem_append.1 z with z | z
    .exact hf (mem_append_left _ z)
    .exact e (by simpa using z)
noncomputable abbrev T(x:List (List Int)):List (Int×Int):=srt (fC x x.length)
theorem qE{x:List (List Int)}(hx:Ord.Rows x)(hn:x.length<=9):eW [aO x]=.ok (.tup ((T x).map pairD)):=by
 have h64:=RJ hx hn;unfold eW;refine gG rfl (dN [.ro (aO x),.ow (.lst []),.no,.no] rfl ?_);obtain ⟨ρ',e,v2,v3,rfl⟩:Nx (dZ (mV (aA (aB 0) aC)) (QN 2 3)
   (sX (p4 1 MZ (bX (bQ 1 [2] (cK (aB 3)) (g1 0) cL (lA (aA (aB 0) (aA (aB 1) aC))))))) [.ro (aO x),.ow (.lst []),.no,.no])
   (λρ=>∃ v2 v3,ρ=[Sv.ro (aO x),Sv.ow (.lst ((fC x x.length).map pairD)),v2,v3]):=by
  refine xG ((x.map tupI).zipIdx.map λp=>.tup [.int (p.2:Int),p.1]) (λi ρ=>∃ v2 v3,ρ=[Sv.ro (aO x),Sv.ow (.lst ((fC x i).map pairD)),v2,v3]) rfl ⟨_,_,rfl⟩ ?_ λρ h=>by simpa using h
  rintro i d _ hd ⟨v2,v3,rfl⟩;rw [getElem?_map,List.getElem?_zipIdx,getElem?_map] at hd
  cases q:x[i]? with
  | none=>rw [q] at hd; cases hd
  | some r =>
   have hi:i<x.length:=(List.getElem?_eq_some_iff.mp q).1;rw [q] at hd;have hd:=Option.some.inj hd;subst hd;have er:row x (i:Int)=r:=by unfold row; rw [Int.toNat_natCast,q]; rfl
   have hl:=EU hx hn i (by omega);have hl2:=EU hx hn (i+1) (by omega);rw [qD,List.length_append,er] at hl2;refine ⟨[.ro (aO x),.ow (.lst ((fC x i).map pairD)),.ro (.int (i:Int)),.ro (tupI r)],by show some [_,_,_,_]=_; rw [Nat.zero_add],_,sXE (aHV (ρ1:=[.ro (aO x),.ow (.lst ((fC x i).map pairD)),.ro (.int (i:Int)),.ro (tupI r)]) (ds0:=(fC x i).map pairD) (ds:=(fC x i).map pairD) (d:=.lst ((r.map λa=>(a,(i:Int))).map pairD)) rfl ?_ rfl (XJ (by simp at hl2 ⊢; omega))),.ro (.int (i:Int)),.ro (tupI r),?_⟩
   .unfold bX;rw [iO (r.map D.int) rfl (by simp at hl2 ⊢; omega) (eI D.int (λa=>pairD (a,(i:Int))) r λa _=>⟨_,rfl,rfl⟩),map_map];rfl
   .rw [qD,map_append,er];rfl
 exact dN _ e (gW (e9 (e9 rfl (HN h64)) rfl))
theorem KL{x:List (List Int)}{p:Int×Int}:p∈T x↔0<=p.2/\p.2<(x.length:Int)/\p.1∈row x p.2:=by rw [(RI _).mem_iff,nN]
noncomputable abbrev B(x:List (List Int)):List (Int×Int):=(T x).filter (aAn x)
end u9
end
section
namespace LL
open PySem L3 L4
noncomputable def i8:gD:=cU 5 3
  (aJ (i6 (tV (aE geM (aB 0) (aE pX (eC (.int 10)) (eC (.int 18)))))
   (bF (aE iN (aE uZ (aB 0) (eC (.int 64))) (aB 1)))
   eP)
  (aJ (aT 3 (eC (.int 0)))
  (aJ (dZ (bM (aA (eC (.int 20)) aC)) (pF 4)
   (aT 3 (aE dB (aE mulM (aB 3) (eC (.int 1000000007))) (aI LL.eG (aA (aB 0) (aA (aB 4) (aA (aB 2) aC)))))))
  (bF (aE iN (aB 3) (aB 1))))))
noncomputable def eW:gD:=cU 4 1
  (aJ (iT 1 (eM aC))
  (aJ (dZ (mV (aA (aB 0) aC)) (QN 2 3)
   (sX (p4 1 MZ (bX (bQ 1 [2] (cK (aB 3)) (g1 0) cL (lA (aA (aB 0) (aA (aB 1) aC))))))))
  (bF (cN cQ (aA (cN kP (aA (aB 1) aC)) aC)))))
theorem KN{i j:Int}{p q:Nat}(hp:p<=4000)(hq:q<=4000)(hi:i.natAbs<2 ^ p)(hj:j.natAbs<2 ^ q):mulM (.int i) (.int j)=some (.int (i*j)):=by
 have lg:∀ m r:Nat,m<2 ^ r->m.log2<r+1:=by
  intro m r hm;by_cases z:m=0
  .rw [z]; exact Nat.succ_pos r
  .exact Nat.lt_succ_of_lt ((Nat.log2_lt z).mpr hm)
 have a:=lg _ _ hi;have b:=lg _ _ hj;have e:wH i j=true:=by unfold wH;rw [decide_eq_true (show i.natAbs.log2+j.natAbs.log2<=134217700 by omega),Bool.or_true]
 unfold mulM pQ;exact if_pos e
theorem CI{i:Int}{j:Int}(ρ:cJ)(h:(decide ((0:Int)<=j)&&decide (j.natAbs<=1000000)&&decide (i.natAbs<18446744073709551616))=true):aE pX (eC (.int i)) (eC (.int j)) ρ=some (.int (i ^ j.toNat)) :=
 bW rfl rfl (if_pos h)
theorem RM(c s:Int){most:Int}(hm:0<most):∃ r,0<=r/\r<most/\i8 [.int c,.int most,.int s]=.ok (.int r):=by
 have e18:∀ ρ,aE pX (eC (.int 10)) (eC (.int 18)) ρ=some (.int 1000000000000000000):=λρ=>by rw [CI ρ (by decide +kernel)];rfl
 unfold i8;by_cases h:(1000000000000000000:Int)<=c
 .refine ⟨c / 64 % most,Int.emod_nonneg _ (by omega),Int.emod_lt_of_pos _ hm,gG rfl (CA (QO (AK (bW (x:=.int c) (y:=.int 1000000000000000000) rfl (e18 _) rB) (by rw [decide_eq_true h]; rfl)) (gW (bW (x:=.int (c / 64)) (y:=.int most) (bW (x:=.int c) (y:=.int 64) rfl rfl (nJ (by decide) (by decide))) rfl (dI hm)))))⟩
 .obtain ⟨_,e,x,v4,rfl⟩:Nx (dZ (bM (aA (eC (.int 20)) aC)) (pF 4)
   (aT 3 (aE dB (aE mulM (aB 3) (eC (.int 1000000007))) (aI LL.eG (aA (aB 0) (aA (aB 4) (aA (aB 2) aC)))))) [.ro (.int c),.ro (.int most),.ro (.int s),.ro (.int 0),.no])
   (λρ=>∃ x v4,ρ=[.ro (.int c),.ro (.int most),.ro (.int s),.ro (.int x),v4]):=by
   refine qB 20 (λi ρ=>∃ x v4,ρ=[.ro (.int c),.ro (.int most),.ro (.int s),.ro (.int x),v4]) rfl (by decide) ⟨0,.no,rfl⟩ ?_ λρ h=>h;rintro i _ hi ⟨x,v4,rfl⟩;obtain ⟨r,_,er⟩:=EN c (i:Int) s (by omega) (by omega);exact ⟨_,rfl,_,fM (.int (x*1000000007+r)) (bW (x:=.int (x*1000000007)) (y:=.int r) (bW (x:=.int x) (y:=.int 1000000007) rfl rfl (xE (by decide))) (jR rfl rfl rfl er) nI) rfl,_,_,rfl⟩
  exact ⟨x % most,Int.emod_nonneg _ (by omega),Int.emod_lt_of_pos _ hm,gG rfl (dN _ (xC (AK (bW (x:=.int c) (y:=.int 1000000000000000000) rfl (e18 _) rB) (by rw [decide_eq_false h]; rfl)) rfl) (dN _ (fM (.int 0) rfl rfl) (dN _ e (gW (bW (x:=.int x) (y:=.int most) rfl rfl (dI hm))))))⟩
theorem qE{x:List (List Int)}(hx:Ord.Rows x)(hn:x.length<=9):LL.eW [aO x]=.ok (.tup ((u9.T x).map pairD)):=u9.qE hx hn
noncomputable def at0(fl:List Int)(a:Int):Int:=(fl[a.toNat]?).getD 0
theorem RN{fl:List Int}{a:Int}(h0:0<=a)(h1:a<(fl.length:Int)):eE (tupI fl) (.int a)=some (.int (at0 fl a)):=by obtain ⟨x,_,e,e2⟩:=CC h0 h1;show zH (fl.map D.int) a=_;rw [vO,e];unfold at0;rw [e2];rfl
theorem CJ{fl:List Int}{a:Int}(h0:0<=a)(h1:a<(fl.length:Int)):eE (aG fl) (.int a)=some (.int (at0 fl a)):=RN h0 h1
theorem RO{ns:List Int}{k a:Int}:a∈putN ns k↔a∈ns\/a=k:=by
 unfold putN;split
 .rename_i h;exact ⟨.inl,λq=>q.elim id λz=>z▸h⟩
 .rw [mem_append,mem_singleton]
theorem HS{ns:List Int}{k:Int}(h:ns.Nodup):(putN ns k).Nodup:=by
 unfold putN;split
 .exact h
 .rename_i z;exact List.nodup_append.mpr ⟨h,by simp,λa ha b hb=>by rw [mem_singleton] at hb;intro e;subst e;subst hb;exact z ha⟩
theorem AO:∀ (ks ns:List Int),ns.Nodup->(ks.foldl putN ns).Nodup /\ ∀ a,a∈ks.foldl putN ns↔a∈ns\/a∈ks
 | [],ns,h=>⟨h,λa=>by simp⟩
 | k::ks,ns,h=>by obtain ⟨h1,h2⟩:=AO ks (putN ns k) (HS h);refine ⟨h1,λa=>?_⟩;rw [foldl_cons,h2,RO,mem_cons,or_assoc]
theorem gY(ns:List Int):(bT ns).Nodup /\ ∀ a,a∈bT ns↔a∈ns:=by obtain ⟨h1,h2⟩:=AO ns [] (by simp);exact ⟨h1,λa=>by unfold bT; rw [h2]; simp⟩
noncomputable def both(r l:List Int):List Int:=sortI (bT (r++l))
noncomputable def aHX(b:Int)(lower:List Int)(p:List Int×Nat):List Int:=if decide ((p.2:Int)=b)||p.1.contains b then both p.1 lower else p.1
noncomputable def put(x:List (List Int))(a b:Int):List (List Int):=x.zipIdx.map (aHX b (row x a++[a]))
noncomputable def fD:gD:=cU 2 2
  (bF (cN cQ (aA (cN nH (aA (aE dB (aB 0) (lA (aA (aB 1) aC))) aC)) aC)))
noncomputable def dQ:gD:=cU 3 2
  (aJ (aT 2 (bQ 1 [1] (bM (aA (cN cR (aA (aB 0) aC)) aC)) (g1 0) (tV (aE (oP true) (aB 0) (aB 1))) (aB 0)))
  (bF (bQ 1 [1,0] (cK (aB 2)) (g1 0) (tV (cN allM (aA (bQ 1 [1] (cK (aE eE (aB 2) (aB 0))) (g1 0) cL (aE (oP false) (aB 0) (aB 1))) aC))) (aB 0))))
noncomputable def aL(x:List (List Int))(a:List Int):List Int:=((aW 0 x.length).filter λt=>!a.contains t).filter λt=>(row x t).all λl=>a.contains l
noncomputable def aK(a:List Int)(t:Int):List Int:=sortI (a++[t])
noncomputable def rdI(x:List (List Int))(a:List Int):List (List Int):=(aL x a).map (aK a)
noncomputable def CK(x:List (List Int))(a:List Int):Prop:=a.Nodup /\ ∀ t∈a,0<=t/\t<(x.length:Int)
theorem CL{ns:List Int}(h:ns.length<64):nH [.tup (ns.map D.int)]=some (.lst ((sortI ns).map D.int)):=by simp [nH,dO,h]
theorem M7{a:List Int}{t:Int}(h:a.length<=9):fD [tupI a,.int t]=.ok (tupI (aK a t)):=by
 unfold fD;refine gG rfl (gW (e9 (x:=aG (aK a t)) (e9 (x:=tupI (a++[t])) (bW (x:=tupI a) (y:=tupI [t]) rfl rfl ?_) ?_) rfl))
 .unfold tupI;rw [EK (by simp; omega),map_append]
 .have:=CL (ns:=a++[t]) (by simp; omega);exact this
theorem EW{x:List (List Int)}{a:List Int}(hx:x.length<=9)(hr:∀ r∈x,r.length<=9):dQ [aO x,tupI a]=.ok (aG (aL x a)):=by
 unfold dQ aL;have e1:bQ 1 [1] (bM (aA (cN cR (aA (aB 0) aC)) aC)) (g1 0) (tV (aE (oP true) (aB 0) (aB 1))) (aB 0) (kC (eF 3 [aO x,tupI a]))=some (aG ((aW 0 x.length).filter λt=>!a.contains t)):=by refine iO ((aW 0 x.length).map D.int) (aAF (e9 rfl fR) (by omega)) (by rw [length_map,aN]; omega) ?_;exact kF D.int _ D.int (aW 0 x.length) λt _=>⟨[some (.int t),some (tupI a)],rfl,AK (bW (x:=.int t) (y:=tupI a) rfl rfl XR) rfl,λ_=>rfl⟩
 generalize hL:((aW 0 x.length).filter λt=>!a.contains t)=L at e1;have Lr:∀ t∈L,0<=t/\t<(x.length:Int):=λt ht=>by rw [<- hL] at ht;have:=bG.mp (List.mem_filter.mp ht).1;omega
 have Ll:L.length<=9:=by rw [<- hL];have:=length_filter_le (λt=>!a.contains t) (aW 0 x.length);rw [aN] at this;omega
 refine gG rfl (dN _ (fM (aG L) e1 rfl) (gW ?_));refine iO (L.map D.int) rfl (by rw [length_map]; omega) ?_;refine kF D.int _ D.int L λt ht=>⟨[some (.int t),some (tupI a),some (aO x)],rfl,?_,λ_=>rfl⟩;obtain ⟨t0,t1⟩:=Lr t ht;have rl:(row x t).length<=9:=by unfold row;rw [getElem?_eq_getElem (by omega)];exact hr _ (getElem_mem _)
 refine AK (d:=.bl ((row x t).all λl=>a.contains l)) (e9 (x:=.lst (((row x t).map λl=>a.contains l).map D.bl)) ?_ ?_) rfl
 .refine Eq.trans (iO ((row x t).map D.int) ?_ (by rw [length_map]; omega) (eI D.int (λl=>.bl (a.contains l)) (row x t) λl _=>⟨[some (.int l),some (tupI a)],rfl,bW (x:=.int l) (y:=tupI a) rfl rfl aAj⟩)) (by rw [map_map]; rfl);unfold cK;rw [bW (x:=aO x) (y:=.int t) (z:=some (tupI (row x t))) rfl rfl (CG t0 t1)];rfl
 .rw [CB,List.all_map];rfl
theorem eJ{x:List (List Int)}{a:List Int}{t:Int}(h:t∈aL x a):(0<=t/\t<(x.length:Int))/\t∉a:=by unfold aL at h;have h1:=(List.mem_filter.mp h).1;have h2:=List.mem_filter.mp h1;have:=bG.mp h2.1;exact ⟨by omega,by simpa using h2.2⟩
theorem tK(n:Nat):(aW 0 n).Nodup:=by refine List.pairwise_iff_getElem.mpr λi j hi hj hij=>?_;have e1:=iP (lo:=0) (n:=n) (i:=i) (by simpa [aN] using hi);have e2:=iP (lo:=0) (n:=n) (i:=j) (by simpa [aN] using hj);rw [getElem?_eq_getElem hi] at e1;rw [getElem?_eq_getElem hj] at e2;have e1:=Option.some.inj e1;have e2:=Option.some.inj e2;omega
theorem fW{x:List (List Int)}{a:List Int}(h:CK x a):(aL x a).length+a.length<=x.length:=by
 have nd:(aL x a++a).Nodup:=by refine List.nodup_append.mpr ⟨?_,h.1,λu hu v hv e=>(eJ hu).2 (e▸hv)⟩;unfold aL;exact List.Pairwise.filter _ (List.Pairwise.filter _ (tK x.length))
 have:=Ord.dH _ (aW 0 x.length) nd λt ht=>bG.mpr (by
  rcases List.mem_append.1 ht with z | z
  .have:=(eJ z).1; omega
  .have:=h.2 t z; omega)
 rwa [List.length_append,aN] at this
theorem aAG{x:List (List Int)}{a:List Int}(h:CK x a):(∀ b∈rdI x a,CK x b/\b.length=a.length+1)/\(rdI x a).length+a.length<=x.length:=by
 refine ⟨λb hb=>?_,by unfold rdI; rw [length_map]; exact fW h⟩;unfold rdI at hb;obtain ⟨t,ht,rfl⟩:=List.mem_map.mp hb;obtain ⟨hr,hn⟩:=eJ ht;have p:=sortI_perm (a++[t]);refine ⟨⟨?_,λu hu=>?_⟩,?_⟩
 .unfold aK;refine p.nodup_iff.mpr (List.nodup_append.mpr ⟨h.1,by simp,λu hu v hv e=>?_⟩);rw [mem_singleton] at hv;subst hv;subst e;exact hn hu
 .unfold aK at hu;rcases List.mem_append.1 (p.mem_iff.mp hu) with z | z
  .exact h.2 u z
  .rw [mem_singleton] at z;subst z;exact hr
 .unfold aK;rw [p.length_eq];simp
theorem XW{x:List (List Int)}{a:List Int}(h:CK x a):a.length<=x.length:=by have:=fW h;omega
theorem rN{x:List (List Int)}:CK x []:=⟨nodup_nil,λt ht=>by cases ht⟩
end LL
end
section
namespace L7
open PySem L3 L4 LL
section
variable(rd:List Int->List (List Int))
noncomputable def Wf:Nat->List Int->Int
 | 0,_=>1
 | m+1,a=>((rd a).map (Wf m)).sum
end
end L7
end
section
namespace K24
noncomputable def fact:Nat->Int
 | 0=>1
 | k+1=>fact k*(k+1)
noncomputable def ff(x:Int):Nat->Int
 | 0=>1
 | k+1=>ff x k*(x - k)
theorem nP:∀ k,0<fact k
 | 0=>by decide
 | k+1=>Int.mul_pos (nP k) (by omega)
theorem KO(x:Int):∀ k,ff (x+1) (k+1)=(x+1)*ff x k
 | 0=>by simp [ff]
 | k+1=>by rw [show ff (x+1) (k+1+1)=ff (x+1) (k+1)*(x+1 - ((k+1:Nat):Int)) from rfl,KO x k,show ff x (k+1)=ff x k*(x - k) from rfl,Int.mul_assoc];congr 2;omega
theorem CM(x:Int)(k:Nat):ff (x+1) (k+1)=ff x (k+1)+(k+1)*ff x k:=by rw [KO,show ff x (k+1)=ff x k*(x - k) from rfl,Int.mul_comm (ff x k),<- Int.add_mul];congr 1;omega
theorem KP:∀ k,ff 0 (k+1)=0
 | 0=>by simp [ff]
 | k+1=>by rw [show ff 0 (k+1+1)=ff 0 (k+1)*_ from rfl,KP k,Int.zero_mul]
theorem RP:∀ (k:Nat) (x:Int),fact k ∣ ff x k
 | 0,x=>by simp [fact,ff]
 | k+1,x=>by
  have st:∀ y:Int,fact (k+1) ∣ (k+1)*ff y k:=λy=>by obtain ⟨c,e⟩:=RP k y;exact ⟨c,by rw [e,show fact (k+1)=fact k*(k+1) from rfl,<- Int.mul_assoc,Int.mul_comm (k+1:Int)]⟩
  have up:∀ y:Int,fact (k+1) ∣ ff y (k+1)->fact (k+1) ∣ ff (y+1) (k+1):=λy h=>by rw [CM]; exact Int.dvd_add h (st y)
  have dn:∀ y:Int,fact (k+1) ∣ ff (y+1) (k+1)->fact (k+1) ∣ ff y (k+1):=λy h=>by rw [CM] at h; exact (Int.dvd_add_left (st y)).mp h
  have h0:fact (k+1) ∣ ff 0 (k+1):=by rw [KP]; exact Int.dvd_zero _
  have pos:∀ n:Nat,fact (k+1) ∣ ff (n:Int) (k+1):=λn=>by
   induction n with
   | zero=>exact h0
   | succ n ih=>exact up _ ih
  have neg:∀ n:Nat,fact (k+1) ∣ ff (-(n:Int)) (k+1):=λn=>by
   induction n with
   | zero=>exact h0
   | succ n ih=>exact dn _ (by rw [show -((n+1:Nat):Int)+1=-(n:Int) by omega]; exact ih)
  rcases Int.le_total 0 x with hx | hx
  .have:=pos x.toNat; rwa [show ((x.toNat:Nat):Int)=x by omega] at this
  .have:=neg (-x).toNat; rwa [show -(((-x).toNat:Nat):Int)=x by omega] at this
--CUT
noncomputable def C(x:Int)(m:Nat):Int:=ff x m / fact m
theorem uI(x:Int)(m:Nat):C x m*fact m=ff x m:=Int.ediv_mul_cancel (RP m x)
theorem aDY{x c:Int}{m:Nat}(h:c*fact m=ff x m):c=C x m:=Int.eq_of_mul_eq_mul_right (Int.ne_of_gt (nP m)) (h.trans (uI x m).symm)
theorem CN(x:Int):C x 0=1:=rfl
theorem CO(x:Int)(m:Nat):C (x+1) (m+1)=C x (m+1)+C x m:=by refine (aDY ?_).symm;rw [Int.add_mul,uI,show fact (m+1)=fact m*(m+1) from rfl,<- Int.mul_assoc,uI,CM,Int.mul_comm (ff x m)]
theorem KQ{x:Nat}:∀ {m:Nat},x<m->ff (x:Int) m=0
 | m+1,h=>by
  show ff (x:Int) m*((x:Int) - (m:Int))=0;by_cases e:x=m
  .subst e; rw [Int.sub_self,Int.mul_zero]
  .rw [KQ (by omega),Int.zero_mul]
theorem CP{x:Int}{m:Nat}(h0:0<=x)(h:x<m):C x m=0:=by refine (aDY ?_).symm;obtain ⟨n,rfl⟩:∃ n:Nat,x=(n:Int):=⟨x.toNat,by omega⟩;rw [KQ (by omega),Int.zero_mul]
theorem aAH:∀ n:Nat,C (n:Int) n=1
 | 0=>rfl
 | n+1=>by rw [show ((n+1:Nat):Int)=(n:Int)+1 from rfl,CO,CP (m:=n+1) (by omega) (by omega),aAH n];rfl
noncomputable def Df(f:Int->Int):Int->Int:=λx=>f (x+1) - f x
noncomputable def It(j:Nat)(f:Int->Int):Int->Int:=match j with
 | 0=>f
 | j+1=>It j (Df f)
theorem M8{f g:Int->Int}(h:∀ x,Df f x=Df g x)(h0:f 0=g 0):∀ x,f x=g x:=by
 have up:∀ n:Nat,f (n:Int)=g n:=λn=>by
  induction n with
  | zero=>exact h0
  | succ n ih =>
   have:=h n;unfold Df at this;rw [show ((n+1:Nat):Int)=(n:Int)+1 from rfl];omega
 have dn:∀ n:Nat,f (-(n:Int))=g (-(n:Int)):=λn=>by
  induction n with
  | zero=>exact h0
  | succ n ih =>
   have:=h (-((n+1:Nat):Int));unfold Df at this;rw [show -((n+1:Nat):Int)+1=-(n:Int) by omega] at this;omega
 intro x;rcases Int.le_total 0 x with hx | hx
 .have:=up x.toNat; rwa [show ((x.toNat:Nat):Int)=x by omega] at this
 .have:=dn (-x).toNat; rwa [show -(((-x).toNat:Nat):Int)=x by omega] at this
noncomputable def SV(j:Nat):List Int->Int->Int
 | [],_=>0
 | s::l,k=>s*C k j+SV (j+1) l k
theorem KR:∀ (l:List Int) (j:Nat) (x:Int),Df (SV (j+1) l) x=SV j l x
 | [],j,x=>rfl
 | s::l,j,x=>by have ih:SV (j+2) l (x+1) - SV (j+2) l x=SV (j+1) l x:=KR l (j+1) x;show s*C (x+1) (j+1)+SV (j+2) l (x+1) - (s*C x (j+1)+SV (j+2) l x)=s*C x j+SV (j+1) l x;rw [CO,Int.mul_add];omega
theorem RQ(s:Int)(l:List Int)(x:Int):Df (SV 0 (s::l)) x=SV 0 l x:=by have:SV 1 l (x+1) - SV 1 l x=SV 0 l x:=KR l 0 x;show s*C (x+1) 0+SV 1 l (x+1) - (s*C x 0+SV 1 l x)=_;rw [CN,CN];omega
theorem RR:∀ (l:List Int) (j:Nat),SV (j+1) l 0=0
 | [],j=>rfl
 | s::l,j=>by show s*C 0 (j+1)+SV (j+2) l 0=0;rw [CP (by omega) (by omega),RR l (j+1)];omega
theorem RS(s:Int)(l:List Int):SV 0 (s::l) 0=s:=by show s*C 0 0+SV 1 l 0=s;rw [RR,CN];omega
noncomputable def diffs:List Int->List Int
 | a::b::l=>(b - a)::diffs (b::l)
 | _=>[]
theorem mF:∀ l:List Int,(diffs l).length=l.length - 1
 | []=>rfl
 | [_]=>rfl
 | a::b::l=>by rw [diffs,length_cons,mF (b::l)]; simp
noncomputable def fd(l:List Int):List Int:=match l with
 | []=>[]
 | a::r=>a::fd (diffs (a::r))
termination_by l.length
decreasing_by rw [mF]; simp
theorem RT:fd []=[]:=by rw [fd]
theorem KS(a:Int)(r:List Int):fd (a::r)=a::fd (diffs (a::r)):=by rw [fd]
noncomputable def vals(f:Int->Int):Nat->Int->List Int
 | 0,_=>[]
 | n+1,x=>f x::vals f n (x+1)
theorem xO(f:Int->Int):∀ (n:Nat) (x:Int),diffs (vals f (n+1) x)=vals (Df f) n x
 | 0,x=>rfl
 | n+1,x=>by have ih:=xO f n (x+1);show (f (x+1) - f x)::diffs (vals f (n+1) (x+1))=(f (x+1) - f x)::vals (Df f) n (x+1);rw [ih]
theorem XX(f:Int->Int)(n:Nat):fd (vals f (n+1) 0)=f 0::fd (vals (Df f) n 0):=by show fd (f 0::vals f n (0+1))=_;rw [KS];congr 1;exact congrArg fd (xO f n 0)
theorem xP:∀ (n:Nat) (f:Int->Int),(∀ x,It n f x=0) -> ∀ k,SV 0 (fd (vals f n 0)) k=f k
 | 0,f,h,k=>by show SV 0 (fd []) k=f k;rw [RT];exact (h k).symm
 | n+1,f,h,k=>by rw [XX];refine M8 (λx=>?_) (RS _ _) k;rw [RQ];exact xP n (Df f) h x
noncomputable def DV(n:Nat)(d:Int):List Int->Int->Int
 | [],_=>0
 | w::l,k=>w*C (k+n - 1 - d) n+DV n (d+1) l k
theorem RU(f g:Int->Int):∀ (j:Nat),It j (λx=>f x+g x)=λx=>It j f x+It j g x:=by
 intro j
 induction j generalizing f g with
 | zero=>rfl
 | succ j ih =>
  show It j (Df λx=>f x+g x)=λx=>It j (Df f) x+It j (Df g) x;rw [<- ih,show (Df λx=>f x+g x)=λx=>Df f x+Df g x from funext λx=>by show f (x+1)+g (x+1) - (f x+g x)=f (x+1) - f x+(g (x+1) - g x); omega]
theorem aAo(w:Int)(f:Int->Int):∀ (j:Nat),It j (λx=>w*f x)=λx=>w*It j f x:=by
 intro j
 induction j generalizing f with
 | zero=>rfl
 | succ j ih =>
  show It j (Df λx=>w*f x)=λx=>w*It j (Df f) x;rw [<- ih,show (Df λx=>w*f x)=λx=>w*Df f x from funext λx=>by unfold Df; rw [Int.mul_sub]]
theorem vQ:∀ j,It j (λ_=>0)=λ_=>0
 | 0=>rfl
 | j+1=>by show It j (Df λ_=>0)=_;rw [show (Df λ_=>0)=λ_=>0 from rfl,vQ j]
theorem aDZ(a:Int):∀ m,It (m+1) (λx=>C (x+a) m)=λ_=>0
 | 0=>rfl
 | m+1=>by
  show It (m+1) (Df λx=>C (x+a) (m+1))=_;rw [show (Df λx=>C (x+a) (m+1))=λx=>C (x+a) m from funext λx=>by show C (x+1+a) (m+1) - C (x+a) (m+1)=C (x+a) m;rw [show x+1+a=(x+a)+1 by omega,CO];omega]
  exact aDZ a m
theorem oR(n:Nat):∀ (l:List Int) (d:Int),It (n+1) (DV n d l)=λ_=>0
 | [],d=>vQ _
 | w::l,d=>by
  show It (n+1) (λk=>w*C (k+n - 1 - d) n+DV n (d+1) l k)=_;rw [RU,aAo,oR n l,show (λk=>C (k+n - 1 - d) n)=λk=>C (k+(n - 1 - d)) n from funext λk=>by rw [show k+(n:Int) - 1 - d=k+(n - 1 - d) by omega],aDZ]
  funext x
  simp
theorem KU{n:Nat}{k:Int}:∀ (l:List Int) (d:Int),k<=d->d+l.length<=n+k->DV n d l k=0
 | [],d,_,_=>rfl
 | w::l,d,h1,h2=>by rw [length_cons] at h2;show w*C (k+n - 1 - d) n+DV n (d+1) l k=0;rw [CP (by omega) (by omega),KU l (d+1) (by omega) (by omega)];omega
theorem tL{n:Nat}{k:Int}:∀ (a b:List Int) (d:Int),DV n d (a++b) k=DV n d a k+DV n (d+a.length) b k
 | [],b,d=>by simp [DV]
 | w::a,b,d=>by show w*C (k+n - 1 - d) n+DV n (d+1) (a++b) k=w*C (k+n - 1 - d) n+DV n (d+1) a k+DV n (d+(a.length+1:Nat)) b k;rw [tL a b (d+1),show d+1+(a.length:Int)=d+(a.length+1:Nat) by omega];omega
theorem aD0{n:Nat}{l:List Int}(hl:l.length=n)(d:Nat){w:Int}(hw:l[d]? = some w):DV n 0 l ((d:Int)+1)=DV n 0 (l.take d) ((d:Int)+1)+w:=by
 have hd:d<n:=by have:=(List.getElem?_eq_some_iff.mp hw).1; omega
 have e:l=l.take d++w::l.drop (d+1):=by have:=(List.getElem?_eq_some_iff.mp hw).2;rw [<- this,List.getElem_cons_drop,List.take_append_drop]
 have hlen:(l.take d).length=d:=by rw [length_take]; omega
 have h2:(l.drop (d+1)).length=n - (d+1):=by rw [length_drop,hl]
 conv=>lhs; rw [e]
 rw [tL,hlen];show _+(w*C ((d:Int)+1+n - 1 - (0+(d:Int))) n+DV n (0+(d:Int)+1) (l.drop (d+1)) _)=_;rw [show (d:Int)+1+(n:Int) - 1 - (0+(d:Int))=(n:Int) by omega,aAH,KU (l.drop (d+1)) (0+(d:Int)+1) (by omega) (by rw [h2]; omega)];omega
noncomputable def CQ(w:List Int):List Int:=fd (vals (DV w.length 0 w) (w.length+1) 0)
theorem AQ:∀ (n:Nat) (l:List Int),l.length=n->(fd l).length=n
 | 0,l,h=>by rw [List.length_eq_zero_iff.mp h,RT]; rfl
 | n+1,[],h=>by simp at h
 | n+1,a::r,h=>by rw [KS,length_cons,AQ n _ (by rw [mF,h]; rfl)]
theorem uJ(f:Int->Int):∀ n x,(vals f n x).length=n
 | 0,_=>rfl
 | n+1,x=>by rw [vals,length_cons,uJ f n]
theorem CS(w:List Int):(CQ w).length=w.length+1:=AQ _ _ (uJ _ _ _)
theorem EX(w:List Int)(k:Int):SV 0 (CQ w) k=DV w.length 0 w k:=xP _ _ (λx=>by rw [oR]) k
noncomputable def Back(s w:List Int):Prop:=s.length=w.length+1 /\ ∀ (d:Nat) (x:Int),w[d]? = some x->x=SV 0 s ((d:Int)+1) - DV w.length 0 (w.take d) ((d:Int)+1)
theorem KW{f g:Int->Int}:∀ (n:Nat) (x:Int),(∀ j:Nat,j<n->f (x+j)=g (x+j))->vals f n x=vals g n x
 | 0,_,_=>rfl
 | n+1,x,h=>by
  have e:=h 0 (by omega);rw [show x+((0:Nat):Int)=x by omega] at e;have r:vals f n (x+1)=vals g n (x+1):=KW n (x+1) λj hj=>by
   have:=h (j+1) (by omega)
   rwa [show x+((j+1:Nat):Int)=x+1+(j:Int) by omega] at this
  rw [vals,vals,e,r]
theorem Back.same{w v:List Int}(h:Back (CQ w) v):v=w:=by
 have hl:v.length=w.length:=by have:=h.1; rw [CS] at this; omega
 have key:∀ d:Nat,d<=w.length->v.take d=w.take d:=by
  intro d
  induction d with
  | zero=>intro _; rfl
  | succ d ih =>
   intro hd;have ih:=ih (by omega);rw [List.take_succ,List.take_succ,ih];obtain ⟨p,hv⟩:∃ p,v[d]? = some p:=⟨_,getElem?_eq_getElem (by omega)⟩;obtain ⟨q,hw⟩:∃ q,w[d]? = some q:=⟨_,getElem?_eq_getElem (by omega)⟩;have e1:=h.2 d p hv;rw [EX,hl,ih,aD0 rfl d hw] at e1;rw [hv,hw,show p=q by omega]
 have:=key w.length (Nat.le_refl _)
 rwa [take_of_length_le (by omega),take_of_length_le (Nat.le_refl _)] at this
noncomputable def Bg(b:Nat)(x:Int):Prop:=x.natAbs<2 ^ b
theorem Bg.mono{a b:Nat}{x:Int}(h:Bg a x)(hab:a<=b):Bg b x:=Nat.lt_of_lt_of_le h (Nat.pow_le_pow_right (by omega) hab)
theorem Bg.mul{a b:Nat}{x y:Int}(h:Bg a x)(g:Bg b y):Bg (a+b) (x*y):=by unfold Bg at *;rw [Nat.pow_add,Int.natAbs_mul];exact Nat.mul_lt_mul_of_lt_of_lt h g
theorem Bg.add{a:Nat}{x y:Int}(h:Bg a x)(g:Bg a y):Bg (a+1) (x+y):=by unfold Bg at *;rw [Nat.pow_succ];generalize 2 ^ a=z at *;omega
theorem Bg.sub{a:Nat}{x y:Int}(h:Bg a x)(g:Bg a y):Bg (a+1) (x - y):=by unfold Bg at *;rw [Nat.pow_succ];generalize 2 ^ a=z at *;omega
theorem Bg.zero{a:Nat}:Bg a 0:=Nat.two_pow_pos a
theorem RV{a b n:Nat}{k:Int}(hC:∀ d:Nat,d<20->Bg b (C (k+n - 1 - d) n)):∀ (l:List Int) (d:Nat),d+l.length<=20->(∀ x∈l,Bg a x)->Bg (a+b+l.length) (DV n d l k)
 | [],j,_,_=>Bg.zero
 | s::l,j,h,hs=>by rw [length_cons] at h ⊢;have h1:=(hs s mem_cons_self).mul (hC j (by omega));have h2:=RV hC l (j+1) (by omega) λx hx=>hs x (mem_cons_of_mem _ hx);exact ((h1.mono (Nat.le_add_right _ l.length)).add h2).mono (by omega)
end K24
end
section
namespace LL
open PySem L3 L4
noncomputable def fS:gD:=cU 2 2
  (bF (bQ 2 [] (AH (aA (aB 0) (aA (aB 1) aC))) (g2 0 1) cL (aE dB (aB 0) (aB 1))))
noncomputable def bN:gD:=cU 1 1
  (bF (aE dB (eM (aA (eC (.int 0)) aC)) (eSl (aB 0) oNo (oE (EE (eC (.int 1)))))))
noncomputable def bB:Nat->XE
 | 0=>λ_ _=>.no
 | n+1=>runM 8 4
  ((aJ (aT 4 (lA (aA (aB 1) (aA (aB 2) aC))))
  (i6 (tV (aE (M1 true) (aB 4) (aB 3)))
   (aJ (iT 5 (aE repLM (eM (aA (eC (.int 0)) aC)) (cN wN (aA (cN cR (aA (aB 0) aC)) (aA (eC (.int 1)) aC)))))
   (aJ (i6 (tV (aE wJ (cN cR (aA (aB 1) aC)) (cN cR (aA (aB 0) aC))))
    (B3 5 (bX (eC (.int 1))) (eC (.int 0)))
    eP)
   (aJ (aAg 5 (dZ (cK (aI LL.dQ (aA (aB 0) (aA (aB 1) aC)))) (pF 6)
    (aJ (sU 7 (bB n) (aA (aB 0) (aA (aI LL.fD (aA (aB 1) (aA (aB 6) aC))) (aA (aB 6) aC))) 3)
    (aT 5 (aI LL.fS (aA (aB 5) (aA (QV (tV (aE J8 (aB 2) (aB 6))) (aI LL.bN (aA (aB 7) aC)) (aB 7)) aC)))))))
   (AG 3 (bX (aB 5)) (aB 4)))))
   eP)))
  (aB 4)
noncomputable def fX:gD:=cU 2 1
  (aJ (aAB 1)
  (aJ (XI (LL.bB 11) (aA (aB 0) (aA (lA aC) (aA (eC (.int 0)) aC))) 1)
  (bF (aB 1))))
noncomputable def aU:gD:=cU 1 1
  (bF (cN cQ (aA (aE aDO (aI LL.fX (aA (aB 0) aC)) (lA (aA (lA aC) (aA (eC (.int 0)) aC)))) aC)))
noncomputable def lE:gD:=cU 4 2
  (aJ (aT 2 (eC (.int 1)))
  (aJ (dZ (bM (aA (aB 1) aC)) (pF 3)
   (aT 2 (aE uZ (aE mulM (aB 2) (aE fA (aB 0) (aB 3))) (aE dB (aB 3) (eC (.int 1))))))
  (bF (aB 2))))
noncomputable def cC:gD:=cU 3 3
  (bF (cN B2 (aA (bQ 2 [1,2] (mV (aA (aB 0) aC)) (g2 0 1) cL (aE mulM (aB 1) (aI LL.lE (aA (aE fA (aE fA (aE dB (aB 3) (aB 2)) (eC (.int 1))) (aB 0)) (aA (aB 2) aC))))) aC)))
noncomputable def eQ:gD:=cU 2 2
  (bF (aI LL.cC (aA (aI LL.aU (aA (aB 0) aC)) (aA (cN cR (aA (aB 0) aC)) (aA (aB 1) aC)))))
noncomputable def eA:gD:=cU 2 2
  (bF (bQ 2 [1] (AH (aA (aE dB (aB 0) (eM (aA (eC (.int 0)) aC))) (aA (aE dB (eM (aA (eC (.int 0)) aC)) (aB 0)) aC))) (g2 0 1) cL (aE dB (aE mulM (aB 2) (aB 0)) (aB 1))))
noncomputable def bY:gD:=cU 5 3
  (aJ (aT 3 (eM (aA (aB 0) aC)))
  (aJ (dZ (bM (aA (aB 2) aC)) (pF 4)
   (aT 3 (aI LL.eA (aA (aB 3) (aA (aE fA (aB 1) (aB 4)) aC)))))
  (bF (aB 3))))
noncomputable def eR:gD:=cU 5 1
  (aJ (aT 1 (cN cR (aA (aB 0) aC)))
  (aJ (aT 2 (aE repLM (eM (aA (eC (.int 0)) aC)) (aE dB (aB 1) (eC (.int 1)))))
  (aJ (dZ (mV (aA (aI LL.aU (aA (aB 0) aC)) aC)) (QN 3 4)
   (aT 2 (aI LL.fS (aA (aB 2) (aA (aI LL.bY (aA (aB 4) (aA (aE fA (aE fA (aB 1) (eC (.int 1))) (aB 3)) (aA (aB 1) aC)))) aC)))))
  (bF (cN cQ (aA (aB 2) aC))))))
noncomputable def pG:gD:=cU 3 1
  (aJ (iT 1 (eM aC))
  (aJ (aT 2 (aB 0))
  (aJ (sQ nG (tV (aB 2))
   (aJ (sX (p4 1 jQ (bX (aE eE (aB 2) (eC (.int 0))))))
   (aT 2 (bQ 2 [] (AH (aA (aB 2) (aA (eSl (aB 2) (oE (eC (.int 1))) oNo) aC))) (g2 0 1) cL (aE fA (aB 1) (aB 0))))))
  (bF (cN cQ (aA (aB 1) aC))))))
noncomputable def rO:gD:=cU 3 1
  (aJ (aT 1 (cN cR (aA (aB 0) aC)))
  (aJ (aT 2 (aI LL.aU (aA (aB 0) aC)))
  (bF (aI LL.pG (aA (bQ 1 [2,1] (bM (aA (aE dB (aB 1) (eC (.int 1))) aC)) (g1 0) cL (aI LL.cC (aA (aB 1) (aA (aB 2) (aA (aB 0) aC))))) aC)))))
noncomputable def qF:gD:=cU 5 2
  (aJ (aT 2 (eC (.int 1)))
  (aJ (aT 3 (eC (.int 1)))
  (aJ (dZ (bM (aA (aB 1) aC)) (pF 4)
   (aJ (aT 2 (aE mulM (aB 2) (aE fA (aB 0) (aB 4))))
   (aT 3 (aE mulM (aB 3) (aE dB (aB 4) (eC (.int 1)))))))
  (bF (aE uZ (aB 2) (aB 3))))))
noncomputable def fK:gD:=cU 2 2
  (aJ (i6 (zF (iZ (tV (jO "tuple" (aB 0)))) (tV (aE MV (cN cR (aA (aB 0) aC)) (aB 1))))
   (bF (eC (.bl false)))
   eP)
  (bF (cN allM (aA (bQ 1 [] (cK (aB 0)) (g1 0) cL (mY (jO "int" (aB 0)) (zG (jO "bool" (aB 0))))) aC))))
noncomputable def fY:gD:=cU 5 3
  (aJ (aT 3 (aI LL.dM (aA (aI LL.dU (aA (aB 0) (aA (aB 1) aC))) (aA (eC (.int 3)) (aA (aB 2) aC)))))
  (aJ (i6 (tV (aE wJ (aE iN (aE eE (aB 3) (eC (.int 0))) (eC (.int 3))) (eC (.int 0))))
   (bF (aE fA (aE iN (aE eE (aB 3) (eC (.int 1))) (eC (.int 25))) (eC (.int 12))))
   eP)
  (aJ (aT 4 (aI LL.i8 (aA (aI LL.dU (aA (aB 0) (aA (aE dB (aB 1) (eC (.int 1))) aC))) (aA (aE eE (eM (aA (aE pX (eC (.int 10)) (eC (.int 4))) (aA (aE pX (eC (.int 10)) (eC (.int 20))) (aA (aE pX (eC (.int 10)) (eC (.int 59))) aC)))) (aE iN (aE eE (aB 3) (eC (.int 1))) (eC (.int 3)))) (aA (aE dB (aB 2) (eC (.int 70001))) aC)))))
  (bF (aE mulM (aB 4) (aE fA (eC (.int 1)) (aE mulM (eC (.int 2)) (aE iN (aE eE (aB 3) (eC (.int 2))) (eC (.int 2))))))))))
theorem EY{ks:List vJ}{k k':vJ}{v:D}:∀ {ks:List vJ} {ds:List D},ks.length=ds.length->cP (fB ks ds k v).1 (fB ks ds k v).2 k' = if k' = k then some v else cP ks ds k':=by
 intro ks ds hl;unfold fB;split
 .rename_i hc;have go:∀ (ks:List vJ) (ds:List D),ks.length=ds.length->cP ks ((ks.zip ds).map λp=>if p.1=k then v else p.2) k' = if k' = k then (cP ks ds k').map (λ_=>v) else cP ks ds k':=by
   intro ks
   induction ks with
   | nil=>intro ds _; simp [cP]
   | cons q ks ih =>
    intro ds hl
    cases ds with
    | nil=>simp at hl
    | cons d ds =>
     have:=ih ds (by simpa using hl);unfold cP at this ⊢;by_cases h1:q=k'
     .subst h1;by_cases h2:q=k
      .simp [h2]
      .simp [h2]
     .simpa [h1] using this
  have hin:k∈ks:=by rw [List.any_eq_true] at hc;obtain ⟨q,hq,e⟩:=hc;rw [<- of_decide_eq_true e];exact hq
  have some_of:∀ (ks:List vJ) (ds:List D),ks.length=ds.length->k∈ks -> ∃ d,cP ks ds k=some d:=by
   intro ks
   induction ks with
   | nil=>intro ds _ h; cases h
   | cons q ks ih =>
    intro ds hl h
    cases ds with
    | nil=>simp at hl
    | cons d ds =>
     by_cases h1:q=k
     .exact ⟨d,by simp [cP,h1]⟩
     .obtain ⟨d',e⟩:=ih ds (by simpa using hl) ((List.mem_cons.1 h).resolve_left (Ne.symm h1));exact ⟨d',by unfold cP at e ⊢; simpa [h1] using e⟩
  rw [go ks ds hl];by_cases h:k' = k
  .subst h;obtain ⟨d,e⟩:=some_of ks ds hl hin;rw [e];simp
  .rw [if_neg h,if_neg h]
 .rename_i hc;have hn:k∉ks:=λh=>hc (List.any_eq_true.2 ⟨k,h,by simp⟩);unfold cP;dsimp only;rw [List.zip_append hl,List.find?_append];by_cases h:k' = k
  .subst h;have:((ks.zip ds).find? λp=>decide (p.1=k'))=none:=by rw [List.find?_eq_none];intro p hp;have:=of_mem_zip hp;simp only [decide_eq_true_eq];exact λe=>hn (e▸this.1)
   rw [this];simp
  .rw [if_neg h];have:([k].zip [v]).find? (λp=>decide (p.1=k'))=none:=by simp [Ne.symm h]
   rw [this,Option.or_none]
theorem KY{ks:List vJ}{ds:List D}{k:vJ}{v:D}(h:ks.length=ds.length):(fB ks ds k v).1.length=(fB ks ds k v).2.length/\(fB ks ds k v).1.length<=ks.length+1:=by
 unfold fB;split
 .simp [h]
 .simp [h]
theorem M9{ks:List vJ}{ds:List D}{k:vJ}{v:D}(h:∀ q∈ks,q.isLeft=false)(hk:k.isLeft=false):∀ q∈(fB ks ds k v).1,q.isLeft=false:=by
 unfold fB;split
 .exact h
 .intro q hq;rcases List.mem_append.1 hq with z | z
  .exact h q z
  .rw [List.mem_singleton.1 z]; exact hk
theorem mG{ks:List vJ}{k:vJ}(h:∀ q∈ks,q.isLeft=false)(hk:k.isLeft=false):kindB ks k=true:=by unfold kindB;rw [all_eq_true];intro q hq;rw [h q hq,hk];rfl
theorem AR:∀ a:List Int,AE (a.map D.int)=some (a.map Sum.inl)
 | []=>rfl
 | x::a=>by rw [map_cons,AE,AR a]; rfl
noncomputable def kS(a:List Int)(l:Int):vJ:=.inr [.inr (a.map Sum.inl),.inl (.inl l)]
theorem KZ(a:List Int)(l:Int):sS (.tup [tupI a,.int l])=some (kS a l):=by
 have e:Q2 (tupI a)=some (.inr (a.map Sum.inl)):=by show (AE (a.map D.int)).map Sum.inr=_;rw [AR];rfl
 show (wR [tupI a,.int l]).map Sum.inr=_;unfold wR;rw [e];rfl
theorem K1:∀ {a b:List Int},a.map (Sum.inl:Int->HH)=b.map Sum.inl->a=b
 | [],[],_=>rfl
 | [],_::_,h=>by simp at h
 | _::_,[],h=>by simp at h
 | x::a,y::b,h=>by simp only [map_cons,List.cons.injEq,Sum.inl.injEq] at h;rw [h.1,K1 h.2]
theorem aAp{a b:List Int}{l m:Int}(h:kS a l=kS b m):a=b/\l=m:=by unfold kS at h;simp only [Sum.inr.injEq,List.cons.injEq,Sum.inl.injEq,and_true] at h;exact ⟨K1 h.1,h.2⟩
noncomputable def jT(a b:List Int):List Int:=(a.zip b).map λp=>p.1+p.2
noncomputable def mH(l:List Int):List Int:=0::l.dropLast
noncomputable def CT(n:Nat):List Int:=1::List.replicate (max n 1 - 1) 0
noncomputable def zJ(n:Nat):List Int:=List.replicate (max n 1) 0
section
variable(x:List (List Int))
noncomputable def Sh:Nat->List Int->Int->List Int
 | 0,_,_=>CT x.length
 | m+1,a,l=>(aL x a).foldl (λacc t=>jT acc (if t<l then mH (Sh m (aK a t) t) else Sh m (aK a t) t)) (zJ x.length)
end
theorem EZ{a b:List Int}(h:a.length<=1000):fS [aG a,aG b]=.ok (aG (jT a b)):=by
 unfold fS jT;refine gG rfl (gW (iO ((a.zip b).map λp=>D.tup [.int p.1,.int p.2]) ?_ ?_ ?_))
 .unfold AH;rw [args2 (x:=aG a) (y:=aG b) rfl rfl];show some (((a.map D.int).zip (b.map D.int)).map _)=_;rw [List.zip_map,map_map];rfl
 .rw [length_map,List.length_zip]; omega
 .rw [eI (λp:Int×Int=>D.tup [.int p.1,.int p.2]) (λp=>.int (p.1+p.2)) (a.zip b) λp _=>⟨[some (.int p.1),some (.int p.2)],rfl,rfl⟩,map_map];rfl
theorem XY{a:List Int}(h0:1<=a.length)(h:a.length<=1000):bN [aG a]=.ok (aG (mH a)):=by
 unfold bN;refine gG rfl (gW (bW (x:=aG [0]) (y:=aG a.dropLast) rfl ?_ ?_))
 .show some (D.lst (XB (a.map D.int) none (some (-1))))=_;unfold aG XB XA;rw [length_map];simp only [Nat.sub_zero,drop_zero];rw [if_pos (by decide),show ((-1:Int)+(a.length:Int)).toNat=a.length - 1 by omega,<- List.map_take,List.dropLast_eq_take]
 .show (if _ then _ else _)=_;rw [if_pos (by simp [pE]; omega)];rfl
theorem fZ{a b:List Int}(h:a.length=b.length):(jT a b).length=a.length:=by unfold jT; simp [h]
theorem nQ{a:List Int}(h:1<=a.length):(mH a).length=a.length:=by unfold mH; simp; omega
theorem mI(n:Nat):(zJ n).length=max n 1:=by simp [zJ]
theorem E1(n:Nat):(CT n).length=max n 1:=by simp [CT]; omega
theorem i9(x:List (List Int)):∀ (m:Nat) (a:List Int) (l:Int),(Sh x m a l).length=max x.length 1
 | 0,a,l=>E1 _
 | m+1,a,l=>by
  unfold Sh;have go:∀ (ts:List Int) (acc:List Int),acc.length=max x.length 1->(ts.foldl (λacc t=>jT acc (if t<l then mH (Sh x m (aK a t) t) else Sh x m (aK a t) t)) acc).length=max x.length 1:=by
   intro ts
   induction ts with
   | nil=>intro acc h; exact h
   | cons t ts ih =>
    intro acc h;rw [foldl_cons];refine ih _ ?_;rw [fZ]
    .exact h
    .rw [h];have:=i9 x m (aK a t) t;split
     .rw [nQ (by omega)]; exact this.symm
     .exact this.symm
  exact go _ _ (mI _)
noncomputable def most:Nat->Nat
 | 0=>1
 | m+1=>1+(m+1)*most m
noncomputable def iW(x:List (List Int))(kd:KD):Prop:=kd.1.length=kd.2.length/\(∀ q∈kd.1,q.isLeft=false) /\ ∀ a l d,cP kd.1 kd.2 (kS a l)=some d->d=aG (Sh x (x.length - a.length) a l)
theorem iW.put{x:List (List Int)}{kd:KD}(h:iW x kd)(a:List Int)(l:Int):iW x (fB kd.1 kd.2 (kS a l) (aG (Sh x (x.length - a.length) a l))):=by
 refine ⟨(KY h.1).1,M9 h.2.1 rfl,λb m d e=>?_⟩;rw [EY (ks:=[]) h.1] at e;split at e
 .rename_i hk;obtain ⟨rfl,rfl⟩:=aAp hk;exact (Option.some.inj e).symm
 .exact h.2.2 b m d e
noncomputable def pS(x:List (List Int))(a:List Int)(l:Int)(q:Nat->Obj->Prop)(kd:KD)(s v6 v7:Sv):aS:=[.ro (aO x),.ro (tupI a),.ro (.int l),.ow (.eD q kd.1 kd.2),.ro (.tup [tupI a,.int l]),s,v6,v7]
theorem aAq{x:List (List Int)}{a:List Int}{l:Int}{q:Nat->Obj->Prop}{kd:KD}{s v6 v7:Sv}(h:iW x kd):tV (aE (M1 true) (aB 4) (aB 3)) (bU (pS x a l q kd s v6 v7))=some (!(cP kd.1 kd.2 (kS a l)).isSome):=by refine AK (d:=.bl (!(cP kd.1 kd.2 (kS a l)).isSome)) (bW (x:=.tup [tupI a,.int l]) (y:=.eD q kd.1 kd.2) rfl rfl ?_) rfl;show ((sS (.tup [tupI a,.int l])).bind _)=_;rw [KZ];show (if _ then _ else _)=_;rw [if_pos (mG h.2.1 rfl)];rfl
theorem aAI{x:List (List Int)}{a:List Int}{l:Int}{q q0:Nat->Obj->Prop}{kd:KD}{s v6 v7:Sv}{d:D}(h:iW x kd)(hq:∀ b o,q b o -> ∃ o2,q0 b o2)(hl:cP kd.1 kd.2 (kS a l)=some d):XG 3 (aB 4) q0 (pS x a l q kd s v6 v7)=some (d,kd):=by have e:XG 3 (aB 4) q0 (pS x a l q kd s v6 v7)=(sS (.tup [tupI a,.int l])).bind λkk=>@ite _ (kindB kd.1 kk=true /\ ∀ b o,q b o -> ∃ o2,q0 b o2) (Classical.propDecidable _) ((cP kd.1 kd.2 kk).map λd=>(d,kd)) none:=rfl;rw [e,KZ];exact (if_pos ⟨mG h.2.1 rfl,hq⟩).trans (by rw [hl]; rfl)
theorem rep0(n:Nat)(h:n<=1000):repLM (.lst [.int 0]) (.int (n:Int))=some (aG (List.replicate n 0)):=by
 show (if _ then _ else _)=_;rw [if_pos ⟨by simp [pE]; omega,by omega⟩];unfold aG;congr 2;simp only [Int.toNat_natCast]
 induction n with
 | zero=>rfl
 | succ n ih=>rw [replicate_succ,flatten_cons,ih (by omega),replicate_succ]; rfl
theorem xQ{x:List (List Int)}{a:List Int}(h:CK x a)(hl:a.length=x.length):aL x a=[]:=by have:=fW h;exact List.eq_nil_of_length_eq_zero (by omega)
theorem K2{x:List (List Int)}{ρ:cJ}(hx:x.length<=9)(h:ρ[0]? = some (some (aO x))):aE repLM (eM (aA (eC (.int 0)) aC)) (cN wN (aA (cN cR (aA (aB 0) aC)) (aA (eC (.int 1)) aC))) ρ=some (aG (zJ x.length)):=by
 have e0:aB 0 ρ=some (aO x):=by unfold aB; rw [h]; rfl
 refine bW (x:=.lst [.int 0]) (y:=.int ((max x.length 1:Nat):Int)) rfl (aDP (x:=.int x.length) (y:=.int 1) (e9 e0 fR) rfl ?_) (rep0 _ (by omega));show some (D.int (if _ then _ else _))=_;split<;>congr 2<;>omega
theorem E2{x:List (List Int)}{a:List Int}{ρ:cJ}(h0:ρ[0]? = some (some (aO x)))(h1:ρ[1]? = some (some (tupI a))):tV (aE wJ (cN cR (aA (aB 1) aC)) (cN cR (aA (aB 0) aC))) ρ=some (decide (a.length=x.length)):=by
 have e0:aB 0 ρ=some (aO x):=by unfold aB; rw [h0]; rfl
 have e1:aB 1 ρ=some (tupI a):=by unfold aB; rw [h1]; rfl
 refine AK (d:=.bl (decide ((a.length:Int)=x.length))) (bW (e9 e1 EO) (e9 e0 fR) kE) ?_;rw [lC];congr 1;exact decide_eq_decide.2 (by omega)
noncomputable def zK(x:List (List Int))(kd:KD)(a:List Int)(l:Int):KD:=fB kd.1 kd.2 (kS a l) (aG (Sh x (x.length - a.length) a l))
theorem K3{x:List (List Int)}{kd:KD}{a:List Int}{l:Int}(h:iW x kd):iW x (zK x kd a l)/\(zK x kd a l).1.length<=kd.1.length+1/\cP (zK x kd a l).1 (zK x kd a l).2 (kS a l)=some (aG (Sh x (x.length - a.length) a l)) :=
 ⟨h.put a l,(KY h.1).2,by unfold zK; rw [EY (ks:=[]) h.1,if_pos rfl]⟩
theorem aAJ{x:List (List Int)}{a:List Int}{l:Int}{q:Nat->Obj->Prop}{kd:KD}{v6 v7:Sv}(h:iW x kd)(hc:kd.1.length<16000000) :
  AG 3 (bX (aB 5)) (aB 4) (pS x a l q kd (.ro (aG (Sh x (x.length - a.length) a l))) v6 v7)=.nx (pS x a l (adr q) (zK x kd a l) (.ro (aG (Sh x (x.length - a.length) a l))) v6 v7):=by
 have e0:AG 3 (bX (aB 5)) (aB 4) (pS x a l q kd (.ro (aG (Sh x (x.length - a.length) a l))) v6 v7)=(match ((sS (.tup [tupI a,.int l])).bind λkk=>if kindB kd.1 kk=true/\kd.2.length<pE then some ((pS x a l q kd (.ro (aG (Sh x (x.length - a.length) a l))) v6 v7).set 3 (.ow (.eD (adr q) (fB kd.1 kd.2 kk (aG (Sh x (x.length - a.length) a l))).1 (fB kd.1 kd.2 kk (aG (Sh x (x.length - a.length) a l))).2))) else none) with
  | some ρ'=>.nx ρ'
  | none=>.no):=rfl
 rw [e0,KZ,Option.bind_some,if_pos ⟨mG h.2.1 rfl,by rw [<- h.1]; unfold pE; omega⟩];rfl
theorem aHY{ρ:aS}{r:List Int}(h:ρ[5]? = some (.ow (aG (0::r)))):B3 5 (bX (eC (.int 1))) (eC (.int 0)) ρ=.nx (ρ.set 5 (.ow (aG (1::r)))):=by
 have e:B3 5 (bX (eC (.int 1))) (eC (.int 0)) ρ=(match ((lY ρ[5]?).bind λds=>(MW ds.length 0).map λj=>ρ.set 5 (.ow (.lst (ds.set j (.int 1))))) with
  | some ρ'=>.nx ρ'
  | none=>.no):=rfl
 rw [e,h]
 show (match ((MW ((0::r).map D.int).length 0).map λj=>ρ.set 5 (.ow (.lst (((0::r).map D.int).set j (.int 1))))) with
  | some ρ'=>Out.nx ρ'
  | none=>.no)=_
 rw [xF (by decide) (by simp)];rfl
noncomputable abbrev bS(n:Nat):SF:=(aJ (aT 4 (lA (aA (aB 1) (aA (aB 2) aC))))
  (i6 (tV (aE (M1 true) (aB 4) (aB 3)))
   (aJ (iT 5 (aE repLM (eM (aA (eC (.int 0)) aC)) (cN wN (aA (cN cR (aA (aB 0) aC)) (aA (eC (.int 1)) aC)))))
   (aJ (i6 (tV (aE wJ (cN cR (aA (aB 1) aC)) (cN cR (aA (aB 0) aC))))
    (B3 5 (bX (eC (.int 1))) (eC (.int 0)))
    eP)
   (aJ (aAg 5 (dZ (cK (aI LL.dQ (aA (aB 0) (aA (aB 1) aC)))) (pF 6)
    (aJ (sU 7 (bB n) (aA (aB 0) (aA (aI LL.fD (aA (aB 1) (aA (aB 6) aC))) (aA (aB 6) aC))) 3)
    (aT 5 (aI fS (aA (aB 5) (aA (QV (tV (aE J8 (aB 2) (aB 6))) (aI bN (aA (aB 7) aC)) (aB 7)) aC)))))))
   (AG 3 (bX (aB 5)) (aB 4)))))
   eP))
theorem vR{x:List (List Int)}{n:Nat}{a:List Int}{l:Int}{kd xR:KD}{d:D}(h:iW x kd)
  (there:∀ d',cP kd.1 kd.2 (kS a l)=some d'->d' = d/\xR = kd)
  (new:cP kd.1 kd.2 (kS a l)=none -> ∀ q,∃ q2 kd2 v5 v6 v7,(∀ b o,q2 b o -> ∃ o2,q b o2)/\bS n (startM 8 [aO x,tupI a,.int l] q kd)=.nx (pS x a l q2 kd2 v5 v6 v7)/\iW x kd2/\cP kd2.1 kd2.2 (kS a l)=some d/\kd2=xR) :
  bB (n+1) [aO x,tupI a,.int l] kd=.ok (d,xR):=by
 unfold bB;refine XH λq=>?_
 have e1:wU 8 4 (bS n) (aB 4) q [aO x,tupI a,.int l] kd=(match bS n (startM 8 [aO x,tupI a,.int l] q kd) with
  | .nx ρ=>XG 3 (aB 4) q ρ
  | _=>none):=rfl
 refine e1.trans ?_
 cases hl:cP kd.1 kd.2 (kS a l) with
 | some d' =>
  obtain ⟨rfl,rfl⟩:=there d' hl;have e2:bS n (startM 8 [aO x,tupI a,.int l] q xR)=.nx (pS x a l q xR .no .no .no):=by refine dN (pS x a l q xR .no .no .no) (fM (.tup [tupI a,.int l]) rfl rfl) ?_;refine xC ?_ rfl;rw [aAq h,hl];rfl
  rw [e2];exact aAI h (λb o ho=>⟨o,ho⟩) hl
 | none =>
  obtain ⟨q2,kd2,v5,v6,v7,hq,eb,hM,hl2,rfl⟩:=new hl q;rw [eb];exact aAI hM hq hl2
theorem RW{a b c:EF}{ρ:cJ}{x y z:D}(ha:a ρ=some x)(hb:b ρ=some y)(hc:c ρ=some z):aA a (aA b (aA c aC)) ρ=some [x,y,z]:=by have:=args2 hb hc;unfold aA at this ⊢;rw [ha,this];rfl
noncomputable abbrev lS(n:Nat):SF:=aJ (sU 7 (bB n) (aA (aB 0) (aA (aI LL.fD (aA (aB 1) (aA (aB 6) aC))) (aA (aB 6) aC))) 3)
    (aT 5 (aI fS (aA (aB 5) (aA (QV (tV (aE J8 (aB 2) (aB 6))) (aI bN (aA (aB 7) aC)) (aB 7)) aC))))
noncomputable def jU(x:List (List Int))(m:Nat)(a:List Int)(l:Int)(acc:List Int)(t:Int):List Int:=jT acc (if t<l then mH (Sh x m (aK a t) t) else Sh x m (aK a t) t)
theorem aAr{x:List (List Int)}{n m:Nat}{a:List Int}{l t:Int}{kd xR:KD}{acc:List Int}{q:Nat->Obj->Prop}{v7:Sv}(ha:a.length<=9)(hx:x.length<=9)(hacc:acc.length=max x.length 1)
  (hR:bB n [aO x,tupI (aK a t),.int t] kd=.ok (aG (Sh x m (aK a t) t),xR)) :
  lS n (pS x a l q kd (.ro (aG acc)) (.ro (.int t)) v7)=.nx (pS x a l (adr q) xR (.ro (aG (jU x m a l acc t))) (.ro (.int t)) (.ro (aG (Sh x m (aK a t) t)))):=by
 have hS:=i9 x m (aK a t) t;refine dN (pS x a l (adr q) xR (.ro (aG acc)) (.ro (.int t)) (.ro (aG (Sh x m (aK a t) t)))) ?_ ?_
 .have e:stepM (bB n) (aA (aB 0) (aA (aI LL.fD (aA (aB 1) (aA (aB 6) aC))) (aA (aB 6) aC))) 3 (pS x a l q kd (.ro (aG acc)) (.ro (.int t)) v7)=some (q,aG (Sh x m (aK a t) t),xR):=by
   unfold stepM;have e1:aA (aB 0) (aA (aI LL.fD (aA (aB 1) (aA (aB 6) aC))) (aA (aB 6) aC)) (kC (pS x a l q kd (.ro (aG acc)) (.ro (.int t)) v7))=some [aO x,tupI (aK a t),.int t]:=by have e2:aI LL.fD (aA (aB 1) (aA (aB 6) aC)) (kC (pS x a l q kd (.ro (aG acc)) (.ro (.int t)) v7))=some (tupI (aK a t)):=dP rfl rfl (M7 ha);exact RW rfl e2 rfl
   rw [e1,Option.bind_some]
   show (match bB n [aO x,tupI (aK a t),.int t] kd with
    | .ok r=>some (q,r)
    | _=>none)=_
   rw [hR]
  unfold sU;rw [e];rfl
 .refine fM (aG (jU x m a l acc t)) ?_ rfl;have e3:QV (tV (aE J8 (aB 2) (aB 6))) (aI bN (aA (aB 7) aC)) (aB 7) (kC (pS x a l (adr q) xR (.ro (aG acc)) (.ro (.int t)) (.ro (aG (Sh x m (aK a t) t)))))=some (aG (if t<l then mH (Sh x m (aK a t) t) else Sh x m (aK a t) t)):=by
   have et:tV (aE J8 (aB 2) (aB 6)) (kC (pS x a l (adr q) xR (.ro (aG acc)) (.ro (.int t)) (.ro (aG (Sh x m (aK a t) t)))))=some (decide (t<l)):=rfl;unfold QV;rw [et,Option.bind_some];by_cases h:t<l
   .rw [decide_eq_true h,if_pos rfl,if_pos h];exact gX rfl (XY (by omega) (by omega))
   .rw [decide_eq_false h,if_neg (by decide),if_neg h];rfl
  exact dP rfl e3 (EZ (by omega))
theorem RX{x:List (List Int)}{n m:Nat}{a:List Int}{l:Int}(ha:a.length<=9)(hx:x.length<=9):∀ (ts:List Int) (acc:List Int) (kd:KD),acc.length=max x.length 1->iW x kd ->
  (∀ t∈ts,∀ kd,iW x kd->kd.1.length+most m<=10000000 -> ∃ xR,bB n [aO x,tupI (aK a t),.int t] kd=.ok (aG (Sh x m (aK a t) t),xR)/\iW x xR/\xR.1.length<=kd.1.length+most m) ->
  kd.1.length+ts.length*most m<=10000000 ->
  ∃ kd2,iW x kd2/\kd2.1.length<=kd.1.length+ts.length*most m /\ ∀ (q0 q:Nat->Obj->Prop) (v6 v7:Sv),(∀ b o,q b o -> ∃ o2,q0 b o2) -> ∃ (q2:Nat->Obj->Prop) (w6 w7:Sv),(∀ b o,q2 b o -> ∃ o2,q0 b o2) /\
   gT (pF 6) (lS n) (ts.map D.int) (pS x a l q kd (.ro (aG acc)) v6 v7)=.nx (pS x a l q2 kd2 (.ro (aG (ts.foldl (jU x m a l) acc))) w6 w7)
 | [],acc,kd,hacc,hM,_,_=>⟨kd,hM,by simp,λq0 q v6 v7 hq=>⟨q,v6,v7,hq,rfl⟩⟩
 | t::ts,acc,kd,hacc,hM,hR,hc=>by
  rw [length_cons,Nat.succ_mul] at hc;obtain ⟨kd1,e1,hM1,hc1⟩:=hR t mem_cons_self kd hM (by omega);have hS:=i9 x m (aK a t) t;have aD1:(jU x m a l acc t).length=max x.length 1:=by
   unfold jU;rw [fZ]
   .exact hacc
   .rw [hacc];split
    .rw [nQ (by omega)]; exact hS.symm
    .exact hS.symm
  obtain ⟨kd2,hM2,hc2,go⟩:=RX ha hx ts (jU x m a l acc t) kd1 aD1 hM1 (λu hu=>hR u (mem_cons_of_mem _ hu)) (by omega);refine ⟨kd2,hM2,by rw [length_cons,Nat.succ_mul]; omega,λq0 q v6 v7 hq=>?_⟩;obtain ⟨q2,w6,w7,hq2,e2⟩:=go q0 (adr q) (.ro (.int t)) (.ro (aG (Sh x m (aK a t) t))) λb o ⟨o1,h1⟩=>hq b o1 h1;refine ⟨q2,w6,w7,hq2,?_⟩;rw [map_cons,foldl_cons]
  have e3:gT (pF 6) (lS n) (D.int t::ts.map D.int) (pS x a l q kd (.ro (aG acc)) v6 v7)=(match lS n (pS x a l q kd (.ro (aG acc)) (.ro (.int t)) v7) with
   | .nx ρ2=>gT (pF 6) (lS n) (ts.map D.int) ρ2
   | o=>o):=rfl
  rw [e3,aAr ha hx hacc e1];exact e2
theorem XZ{x:List (List Int)}(hx:x.length<=9)(hr:∀ r∈x,r.length<=9):∀ (m e:Nat) (a:List Int) (l:Int) (kd:KD),CK x a->a.length+m=x.length->iW x kd->kd.1.length+most m<=10000000 ->
  ∃ xR,bB (m+1+e) [aO x,tupI a,.int l] kd=.ok (aG (Sh x m a l),xR)/\iW x xR/\xR.1.length<=kd.1.length+most m/\cP xR.1 xR.2 (kS a l)=some (aG (Sh x m a l)):=by
 intro m
 induction m with
 | zero =>
  intro e a l kd ok hl hM hc;have hl:a.length=x.length:=hl;have m0:most 0=1:=rfl;have e0:x.length - a.length=0:=by omega
  rw [show 0+1+e=e+1 by omega]
  cases hk:cP kd.1 kd.2 (kS a l) with
  | some d =>
   have ed:=hM.2.2 a l d hk;rw [e0] at ed;subst ed;exact ⟨kd,vR hM (λd' h'=>by rw [hk] at h'; exact ⟨(Option.some.inj h').symm,rfl⟩) (λh'=>by rw [hk] at h'; cases h'),hM,by omega,hk⟩
  | none =>
   obtain ⟨p1,p2,p3⟩:=K3 (a:=a) (l:=l) hM;rw [e0] at p3;refine ⟨zK x kd a l,vR hM (λd' h'=>by rw [hk] at h'; cases h') λ_ q=>⟨adr q,zK x kd a l,.ro (aG (Sh x 0 a l)),.no,.no,λb o h=>h,?_,p1,p3,rfl⟩,p1,by omega,p3⟩
   .refine dN (pS x a l q kd .no .no .no) (fM (.tup [tupI a,.int l]) rfl rfl) (QO ?_ ?_)
    .rw [aAq hM,hk]; rfl
    .have ez:zJ x.length=0::List.replicate (max x.length 1 - 1) 0:=by unfold zJ;rw [<- replicate_succ];congr 1;omega
     refine dN (pS x a l q kd (.ow (aG (zJ x.length))) .no .no) (by unfold iT; rw [K2 hx rfl]; rfl) ?_;refine dN (pS x a l q kd (.ow (aG (CT x.length))) .no .no) (QO ((E2 rfl rfl).trans (by rw [decide_eq_true hl])) ?_) ?_
     .rw [ez];exact aHY rfl
     refine dN (pS x a l q kd (.ro (aG (CT x.length))) .no .no) ?_ ?_
     .show dZ _ _ _ (pS x a l q kd (.ro (aG (CT x.length))) .no .no)=_;refine Q5 [] ?_ rfl;unfold cK;rw [dP (x:=aO x) (y:=tupI a) rfl rfl (EW hx hr),xQ ok hl];rfl
     .have:=aAJ (x:=x) (a:=a) (l:=l) (q:=q) (kd:=kd) (v6:=.no) (v7:=.no) hM (by omega);rw [e0] at this;exact this
 | succ m ih =>
  intro e a l kd ok hl hM hc;have mm:most (m+1)=1+(m+1)*most m:=rfl;have e0:x.length - a.length=m+1:=by omega
  have hfew:=fW ok;have ha:=XW ok;rw [show m+1+1+e=(m+1+e)+1 by omega]
  cases hk:cP kd.1 kd.2 (kS a l) with
  | some d =>
   have ed:=hM.2.2 a l d hk;rw [e0] at ed;subst ed;exact ⟨kd,vR hM (λd' h'=>by rw [hk] at h'; exact ⟨(Option.some.inj h').symm,rfl⟩) (λh'=>by rw [hk] at h'; cases h'),hM,by omega,hk⟩
  | none =>
   have hlen:(aL x a).length*most m<=(m+1)*most m:=Nat.mul_le_mul_right _ (by omega);obtain ⟨kd1,hM1,hc1,go⟩:=RX (n:=m+1+e) (m:=m) (l:=l) (by omega:a.length<=9) hx (aL x a) (zJ x.length) kd (mI _) hM (λt ht kd hM' hc'=>(ih e (aK a t) t kd ((aAG ok).1 _ (mem_map_of_mem ht)).1 (by have:=((aAG ok).1 _ (mem_map_of_mem ht)).2; omega) hM' hc').imp λ_ h=>⟨h.1,h.2.1,h.2.2.1⟩) (by omega);obtain ⟨p1,p2,p3⟩:=K3 (a:=a) (l:=l) hM1;rw [e0] at p3;refine ⟨zK x kd1 a l,vR hM (λd' h'=>by rw [hk] at h'; cases h') λ_ q=>?_,p1,by omega,p3⟩;obtain ⟨q2,w6,w7,hq2,el⟩:=go q q .no .no λb o h=>⟨o,h⟩;refine ⟨adr q2,zK x kd1 a l,.ro (aG (Sh x (m+1) a l)),w6,w7,λb o ⟨o1,h1⟩=>hq2 b o1 h1,?_,p1,p3,rfl⟩;refine dN (pS x a l q kd .no .no .no) (fM (.tup [tupI a,.int l]) rfl rfl) (QO ?_ ?_)
   .rw [aAq hM,hk]; rfl
   .refine dN (pS x a l q kd (.ow (aG (zJ x.length))) .no .no) (by unfold iT; rw [K2 hx rfl]; rfl) ?_;refine dN (pS x a l q kd (.ow (aG (zJ x.length))) .no .no) (xC ((E2 rfl rfl).trans (by rw [decide_eq_false (by omega)])) rfl) ?_;refine dN (pS x a l q2 kd1 (.ro (aG (Sh x (m+1) a l))) w6 w7) ?_ ?_
    .show dZ _ _ _ (pS x a l q kd (.ro (aG (zJ x.length))) .no .no)=_;refine Q5 ((aL x a).map D.int) ?_ el;unfold cK;rw [dP (x:=aO x) (y:=tupI a) rfl rfl (EW hx hr)];rfl
    .have:=aAJ (x:=x) (a:=a) (l:=l) (q:=q2) (kd:=kd1) (v6:=w6) (v7:=w7) hM1 (by omega);rw [e0] at this;exact this
theorem aAs:∀ {n:Nat},n<=9->most n<=1000000:=by
 intro n h;have:∀ n,n<=9->most n<=1000000:=by decide
 exact this n h
noncomputable def shares(x:List (List Int)):List Int:=Sh x x.length [] 0
theorem AS{x:List (List Int)}(hx:x.length<=9)(hr:∀ r∈x,r.length<=9):aU [aO x]=.ok (tupI (shares x)):=by
 obtain ⟨kd,e,hM,hc,hl⟩:=XZ hx hr x.length (10 - x.length) [] 0 ([],[]) rN (by simp) ⟨rfl,λq hq=>(by cases hq),λa l d h=>(by simp [cP] at h)⟩ (by have:=aAs hx; simp; omega);rw [show x.length+1+(10 - x.length)=11 by omega] at e;have e1:fX [aO x]=.ok (.eD (adr u7) kd.1 kd.2):=by
  unfold fX;refine gG rfl (dN [.ro (aO x),.ow (.eD u7 [] [])] rfl (dN [.ro (aO x),.ow (.eD (adr u7) kd.1 kd.2)] ?_ (gW rfl)));have e2:stepM (bB 11) (aA (aB 0) (aA (lA aC) (aA (eC (.int 0)) aC))) 1 [.ro (aO x),.ow (.eD u7 [] [])]=some (u7,aG (Sh x x.length [] 0),kd):=by
   unfold stepM;rw [RW (x:=aO x) (y:=tupI []) (z:=.int 0) rfl rfl rfl,Option.bind_some]
   show (match bB 11 [aO x,tupI [],.int 0] ([],[]) with
    | .ok r=>some (u7,r)
    | _=>none)=_
   rw [e]
  unfold XI;rw [e2];rfl
 unfold aU;refine gG rfl (gW (e9 (x:=aG (shares x)) (bW (x:=.eD (adr u7) kd.1 kd.2) (y:=.tup [tupI [],.int 0]) (gX rfl e1) rfl ?_) rfl));show ((sS (.tup [tupI [],.int 0])).bind λk=>if kindB kd.1 k=true then cP kd.1 kd.2 k else none)=_;rw [KZ,Option.bind_some,if_pos (mG hM.2.1 rfl)];exact hl
end LL
end
section
namespace LL
open PySem L3 L4 K24
theorem RY{x:Int}(hx:Bg 210 x):∀ m:Nat,m<=1000->Bg (211*m+1) (ff x m)
 | 0,_=>by unfold Bg ff; decide
 | m+1,h=>by
  have h1:=RY hx m (by omega);have h2:Bg 211 (x - m):=by
   have:Bg 210 (m:Int):=by
    unfold Bg;have:(m:Int).natAbs<2 ^ 10:=by omega
    exact Nat.lt_of_lt_of_le this (Nat.pow_le_pow_right (by decide) (by decide))
   exact hx.sub this
  exact (h1.mul h2).mono (by omega)
theorem aAK{x:Int}(hx:Bg 210 x){m:Nat}(hm:m<=1000):Bg (211*m+1) (C x m):=by
 have h:=RY hx m hm;have e:=uI x m;unfold Bg at h ⊢;rw [<- e,Int.natAbs_mul] at h;have:1<=(fact m).natAbs:=by have:=nP m; omega
 exact Nat.lt_of_le_of_lt (Nat.le_mul_of_pos_right _ this) h
theorem aAt(x:Int)(i:Nat):C x i*(x - i) / ((i:Int)+1)=C x (i+1):=by
 have h1:=uI x i;have h2:=uI x (i+1);have e:C x i*(x - i)=C x (i+1)*((i:Int)+1):=by
  refine Int.eq_of_mul_eq_mul_right (Int.ne_of_gt (nP i)) ?_;rw [show fact (i+1)=fact i*(i+1) from rfl,show ff x (i+1)=ff x i*(x - i) from rfl,<- h1] at h2
  calc C x i*(x - ↑i)*fact i=C x i*fact i*(x - ↑i):=by rw [Int.mul_right_comm]
   _=C x (i+1)*(fact i*(↑i+1)):=h2.symm
   _=C x (i+1)*(↑i+1)*fact i:=by rw [Int.mul_comm (fact i),Int.mul_assoc]
 rw [e,Int.mul_ediv_cancel _ (by omega)]
theorem NA{x:Int}{m:Nat}(hx:Bg 210 x)(hm:m<=12):lE [.int x,.int m]=.ok (.int (C x m)):=by
 unfold lE;have h:Rt (aJ (aT 2 (eC (.int 1))) (aJ (dZ (bM (aA (aB 1) aC)) (pF 3) (aT 2 (aE uZ (aE mulM (aB 2) (aE fA (aB 0) (aB 3))) (aE dB (aB 3) (eC (.int 1)))))) (bF (aB 2))) (eF 4 [.int x,.int m])) λd=>d=.int (C x m):=by
  refine cD [.ro (.int x),.ro (.int m),.ro (.int 1),.no] rfl ?_;refine nL (λρ=>∃ v,ρ=[.ro (.int x),.ro (.int m),.ro (.int (C x m)),v]) ?_ λρ ⟨v,e⟩=>by subst e; exact nM _ rfl rfl
  refine qB m (λi ρ=>∃ v,ρ=[.ro (.int x),.ro (.int m),.ro (.int (C x i)),v]) rfl (by omega) ⟨_,rfl⟩ (λi ρ hi ⟨v,e⟩=>?_) λρ h=>h;subst e;refine ⟨_,rfl,HI (.int (C x (i+1))) (bW (x:=.int (C x i*(x - i))) (y:=.int ((i:Int)+1)) (bW (x:=.int (C x i)) (y:=.int (x - i)) rfl rfl (KN (p:=211*i+1) (q:=211) (by omega) (by omega) (aAK hx (by omega)) ?_)) rfl ?_) ⟨_,rfl⟩⟩
  .have:Bg 210 (i:Int):=by
    unfold Bg;have:(i:Int).natAbs<2 ^ 10:=by omega
    exact Nat.lt_of_lt_of_le this (Nat.pow_le_pow_right (by decide) (by decide))
   exact hx.sub this
  .rw [nJ (by omega) (by omega),aAt]
 obtain ⟨d,e,rfl⟩:=tH rfl h;exact e
noncomputable def dvL(n:Nat)(k:Int)(w:List Int)(d:Nat):List Int:=(w.zipIdx d).map λp=>p.1*C (k+n - 1 - p.2) n
theorem K4(n:Nat)(k:Int):∀ (w:List Int) (d:Nat),(dvL n k w d).sum=DV n d w k
 | [],d=>rfl
 | a::w,d=>by have ih:=K4 n k w (d+1);show a*C (k+n - 1 - d) n+(dvL n k w (d+1)).sum=a*C (k+n - 1 - d) n+DV n ((d:Int)+1) w k;rw [ih];rfl
theorem E3{k:Int}(hk:Bg 208 k){a b:Nat}(ha:a<=1000)(hb:b<=1000):Bg 210 (k+a - 1 - b):=by
 unfold Bg at hk ⊢;have:(2:Nat) ^ 210=4*2 ^ 208:=by rw [show 210=2+208 from rfl,Nat.pow_add]
 have h2:2000<2 ^ 208:=Nat.lt_of_lt_of_le (by decide:2000<2 ^ 11) (Nat.pow_le_pow_right (by decide) (by decide));rw [this];generalize 2 ^ 208=z at *;omega
theorem E4{w:List Int}{n:Nat}{k:Int}(hw:w.length<=20)(hs:∀ y∈w,y.natAbs<18446744073709551616)(hn:n<=12)(hk:Bg 208 k):cC [tupI w,.int n,.int k]=.ok (.int (DV n 0 w k)):=by
 unfold cC;have e:=K4 n k w 0;rw [show ((0:Nat):Int)=0 from rfl] at e;rw [<- e];refine gG rfl (gW (e9 (x:=aG (dvL n k w 0)) ?_ sum_ints));refine iO ((w.zipIdx).map λp=>D.tup [.int (p.2:Int),.int p.1]) ?_ (by simp; omega) ?_
 .unfold mV;rw [args1 (x:=tupI w) rfl];show some (((w.map D.int).zipIdx).map _)=_;rw [zipIdx_map,map_map];rfl
 .unfold dvL;rw [map_map];refine eI (λp:Int×Nat=>D.tup [.int (p.2:Int),.int p.1]) (λp=>.int (p.1*C (k+n - 1 - p.2) n)) w.zipIdx λp hp=>⟨[some (.int p.2),some (.int p.1),some (.int n),some (.int k)],rfl,?_⟩;have hm:=List.mem_zipIdx hp;have h1:p.1∈w:=by have:=hm.2.2; rw [this]; exact getElem_mem _
  exact bW (x:=.int p.1) (y:=.int (C (k+n - 1 - p.2) n)) rfl (dP (x:=.int (k+n - 1 - p.2)) (y:=.int n) rfl rfl (NA (E3 hk (by omega) (by omega)) hn)) (nK (hs _ h1))
theorem aHZ{i:Nat}{f:EF}{ρ:aS}{ds:List D}{d:D}(h1:f (kC ρ)=some d)(h2:ρ[i]? = some (.ow (.lst ds)))(hl:ds.length<16777216):sX (p4 i jQ (bX f)) ρ=.nx (ρ.set i (.ow (.lst (ds++[d])))):=by
 have e:p4 i jQ (bX f) ρ=some (ρ.set i (.ow (.lst (ds++[d]))),.non):=by unfold p4 bX;rw [h2,h1];show ((lY ρ[i]?).bind λds=>(jQ ds d).map _)=_;rw [h2];show ((jQ ds d).map _)=_;rw [vN hl];rfl
 unfold sX;rw [e]
noncomputable def ev(k:Int):List Int->Int
 | []=>0
 | a::l=>a+k*ev k l
noncomputable def nU(s:Int)(l:List Int):List Int:=((l++[0]).zip (0::l)).map λp:Int×Int=>s*p.1+p.2
theorem HU(s:Int):∀ (l:List Int) (c:Int),((l++[0]).zip (c::l)).map (λp:Int×Int=>s*p.1+p.2)=match l with
  | []=>[c]
  | a::r=>(s*a+c)::((r++[0]).zip (a::r)).map (λp:Int×Int=>s*p.1+p.2)
 | [],c=>by simp
 | a::r,c=>by simp
theorem E5(k s:Int):∀ (l:List Int) (c:Int),ev k (((l++[0]).zip (c::l)).map λp:Int×Int=>s*p.1+p.2)=c+(k+s)*ev k l
 | [],c=>by simp [ev]
 | a::r,c=>by
  rw [HU];show s*a+c+k*ev k (((r++[0]).zip (a::r)).map λp:Int×Int=>s*p.1+p.2)=c+(k+s)*(a+k*ev k r);rw [E5 k s r a];simp only [Int.add_mul,Int.mul_add,Int.mul_assoc];have:s*(k*ev k r)=k*(s*ev k r):=by rw [<- Int.mul_assoc,Int.mul_comm s k,Int.mul_assoc]
  omega
theorem CU(s:Int)(l:List Int):(nU s l).length=l.length+1:=by unfold nU; simp
noncomputable def fN(s t:Int):Nat->List Int
 | 0=>[s]
 | n+1=>nU (t - n) (fN s t n)
theorem K5(k s t:Int):∀ n:Nat,ev k (fN s t n)=s*ff (k+t) n
 | 0=>by simp [fN,ev,ff]
 | n+1=>by show ev k (nU (t - n) (fN s t n))=s*(ff (k+t) n*(k+t - n));unfold nU;rw [E5,K5 k s t n,show k+(t - (n:Int))=k+t - n by omega,Int.zero_add,Int.mul_comm,Int.mul_assoc]
theorem iQ(s t:Int):∀ n:Nat,(fN s t n).length=n+1
 | 0=>rfl
 | n+1=>by rw [show fN s t (n+1)=nU (t - n) (fN s t n) from rfl,CU,iQ s t n]
theorem RZ{l:List Int}{s:Int}(hl:l.length<=1000)(hs:s.natAbs<18446744073709551616):eA [aG l,.int s]=.ok (aG (nU s l)):=by
 unfold eA nU;refine gG rfl (gW ?_);have e5:aG (((l++[0]).zip (0::l)).map λp:Int×Int=>s*p.1+p.2)=.lst (((l++[0]).zip (0::l)).map λp:Int×Int=>D.int (s*p.1+p.2)):=by unfold aG;rw [map_map];rfl
 rw [e5];refine iO (((l++[0]).zip (0::l)).map λp:Int×Int=>D.tup [.int p.1,.int p.2]) ?_ (by simp; omega) ?_
 .unfold AH;have a1:aE dB (aB 0) (eM (aA (eC (.int 0)) aC)) (bU (eF 2 [aG l,.int s]))=some (aG (l++[0])):=by refine bW (x:=aG l) (y:=.lst [.int 0]) rfl rfl ?_;unfold aG;rw [xD (by simp; omega),map_append];rfl
  have a2:aE dB (eM (aA (eC (.int 0)) aC)) (aB 0) (bU (eF 2 [aG l,.int s]))=some (aG (0::l)):=by refine bW (x:=.lst [.int 0]) (y:=aG l) rfl rfl ?_;unfold aG;rw [xD (by simp; omega)];rfl
  rw [args2 a1 a2];show some ((((l++[0]).map D.int).zip ((0::l).map D.int)).map _)=_;rw [List.zip_map,map_map];rfl
 .exact eI (λp:Int×Int=>D.tup [.int p.1,.int p.2]) (λp:Int×Int=>D.int (s*p.1+p.2)) _ λp _=>⟨[some (.int p.1),some (.int p.2),some (.int s)],rfl,bW (g:=dB) (x:=.int (s*p.1)) (y:=.int p.2) (bW (g:=mulM) (x:=.int s) (y:=.int p.1) rfl rfl (nK hs)) rfl nI⟩
theorem HV{s t:Int}{n:Nat}(hn:n<=20)(ht:t.natAbs<=1000):bY [.int s,.int t,.int n]=.ok (aG (fN s t n)):=by
 unfold bY;have h:Rt ((aJ (aT 3 (eM (aA (aB 0) aC))) (aJ (dZ (bM (aA (aB 2) aC)) (pF 4) (aT 3 (aI eA (aA (aB 3) (aA (aE fA (aB 1) (aB 4)) aC))))) (bF (aB 3)))) (eF 5 [.int s,.int t,.int n])) λd=>d=aG (fN s t n):=by
  refine cD [.ro (.int s),.ro (.int t),.ro (.int n),.ro (aG [s]),.no] rfl ?_;refine nL (λρ=>∃ v,ρ=[.ro (.int s),.ro (.int t),.ro (.int n),.ro (aG (fN s t n)),v]) ?_ λρ ⟨v,e⟩=>by subst e; exact nM _ rfl rfl
  refine qB n (λi ρ=>∃ v,ρ=[.ro (.int s),.ro (.int t),.ro (.int n),.ro (aG (fN s t i)),v]) rfl (by omega) ⟨_,rfl⟩ (λi ρ hi ⟨v,e⟩=>?_) λρ h=>h;subst e;exact ⟨_,rfl,HI (aG (fN s t (i+1))) (dP (x:=aG (fN s t i)) (y:=.int (t - i)) rfl rfl (RZ (by rw [iQ]; omega) (by omega))) ⟨_,rfl⟩⟩
 obtain ⟨d,e,rfl⟩:=tH rfl h;exact e
theorem R1(k:Int):∀ {a b:List Int},a.length=b.length->ev k (jT a b)=ev k a+ev k b
 | [],[],_=>rfl
 | [],_::_,h=>by simp at h
 | _::_,[],h=>by simp at h
 | x::a,y::b,h=>by have ih:=R1 k (a:=a) (b:=b) (by simpa using h);show x+y+k*ev k (jT a b)=x+k*ev k a+(y+k*ev k b);rw [ih,Int.mul_add];omega
noncomputable def rP(n:Nat):List Int->Nat->List Int->List Int
 | [],_,acc=>acc
 | s::w,d,acc=>rP n w (d+1) (jT acc (fN s ((n:Int) - 1 - d) n))
theorem uK(n:Nat):∀ (w:List Int) (d:Nat) (acc:List Int),acc.length=n+1->(rP n w d acc).length=n+1
 | [],d,acc,h=>h
 | s::w,d,acc,h=>uK n w (d+1) _ (by rw [fZ (by rw [h,iQ]),h])
theorem K6(n:Nat)(k:Int):∀ (w:List Int) (d:Nat) (acc:List Int),acc.length=n+1->ev k (rP n w d acc)=ev k acc+fact n*DV n d w k
 | [],d,acc,h=>by simp [rP,DV]
 | s::w,d,acc,h=>by
  have hl:acc.length=(fN s ((n:Int) - 1 - d) n).length:=by rw [h,iQ]
  rw [show rP n (s::w) d acc=rP n w (d+1) (jT acc (fN s ((n:Int) - 1 - d) n)) from rfl,K6 n k w (d+1) _ (by rw [fZ hl,h]),R1 k hl,K5];show _+fact n*DV n ((d:Int)+1) w k=ev k acc+fact n*(s*C (k+n - 1 - d) n+DV n ((d:Int)+1) w k);rw [show k+((n:Int) - 1 - d)=k+n - 1 - d by omega,<- uI,Int.mul_add,Int.mul_comm (C _ n),<- Int.mul_assoc,<- Int.mul_assoc,Int.mul_comm s];omega
theorem R3(x:List (List Int))(a:List Int):(aL x a).length<=x.length:=by unfold aL;have h1:=length_filter_le (λt=>(row x t).all λl=>a.contains l) ((aW 0 x.length).filter λt=>!a.contains t);have h2:=length_filter_le (λt=>!a.contains t) (aW 0 x.length);rw [aN] at h2;omega
theorem R4{x:List (List Int)}(hx:x.length<=9):∀ (m:Nat) (a:List Int) (l:Int),∀ y∈Sh x m a l,0<=y/\y<=9 ^ m
 | 0,a,l,y,hy=>by
  unfold Sh CT at hy;rcases List.mem_cons.1 hy with e | e
  .subst e; decide
  .rw [List.eq_of_mem_replicate e]; decide
 | m+1,a,l,y,hy=>by
  have ih:=R4 hx m;have go:∀ (ts:List Int) (acc:List Int) (c:Int),0<=c->(∀ y∈acc,0<=y/\y<=c*9 ^ m) -> ∀ y∈ts.foldl (λacc t=>jT acc (if t<l then mH (Sh x m (aK a t) t) else Sh x m (aK a t) t)) acc,0<=y/\y<=(c+ts.length)*9 ^ m:=by
   intro ts
   induction ts with
   | nil=>intro acc c hc h; simpa using h
   | cons t ts iht =>
    intro acc c hc h;rw [foldl_cons];have:=iht (jT acc (if t<l then mH (Sh x m (aK a t) t) else Sh x m (aK a t) t)) (c+1) (by omega) ?_
    .rw [length_cons];rw [show c+((ts.length+1:Nat):Int)=c+1+ts.length by omega];exact this
    .intro y hy;unfold jT at hy;obtain ⟨p,hp,rfl⟩:=List.mem_map.1 hy;obtain ⟨m1,m2⟩:=of_mem_zip hp;have g1:=h _ m1;have g2:0<=p.2/\p.2<=9 ^ m:=by
      split at m2
      .unfold mH at m2;rcases List.mem_cons.1 m2 with e | e
       .rw [e]; exact ⟨by decide,Int.le_of_lt (Int.pow_pos (by decide))⟩
       .exact ih _ _ _ (List.dropLast_subset _ e)
      .exact ih _ _ _ m2
     rw [Int.add_mul,Int.one_mul];omega
  unfold Sh at hy;have:=go (aL x a) (zJ x.length) 0 (by decide) (λy hy=>by rw [List.eq_of_mem_replicate hy];simp) y hy
  refine ⟨this.1,Int.le_trans this.2 ?_⟩;rw [Int.zero_add,Int.pow_succ,Int.mul_comm];have h1:=R3 x a;exact Int.mul_le_mul_of_nonneg_left (by omega) (Int.le_of_lt (Int.pow_pos (by decide)))
theorem xS{x:List (List Int)}(hx:x.length<=9):∀ y∈shares x,0<=y/\y<=387420489:=λy hy=>by
 have h:=R4 hx x.length [] 0 y hy;refine ⟨h.1,Int.le_trans h.2 ?_⟩;have:∀ n,n<=9->(9:Int) ^ n<=387420489:=by decide
 exact this _ hx
theorem kR(x:List (List Int)):(shares x).length=max x.length 1:=i9 x _ _ _
theorem HW{x:List (List Int)}(hx:x.length<=9):∀ y∈shares x,Bg 30 y:=λy hy=>by have:=xS hx y hy;show y.natAbs<1073741824;omega
theorem nV{x:List (List Int)}(hx:x.length<=9)(hr:∀ r∈x,r.length<=9){k:Int}(hk:Bg 208 k):eQ [aO x,.int k]=.ok (.int (DV x.length 0 (shares x) k)):=by unfold eQ;refine gG rfl (gW (jR (gX rfl (AS hx hr)) (e9 rfl fR) rfl (E4 (by rw [kR]; omega) (λy hy=>?_) (by omega) hk)));have:=xS hx y hy;omega
theorem zL{x:List (List Int)}(hx:x.length<=9)(hr:∀ r∈x,r.length<=9):eR [aO x]=.ok (tupI (rP x.length (shares x) 0 (List.replicate (x.length+1) 0))):=by
 unfold eR;have step:∀ (w:List Int) (d:Nat) (acc:List Int) (v3 v4:Sv),acc.length=x.length+1->d+w.length<=20 -> ∃ w3 w4,gT (QN 3 4) (aT 2 (aI fS (aA (aB 2) (aA (aI bY (aA (aB 4) (aA (aE fA (aE fA (aB 1) (eC (.int 1))) (aB 3)) (aA (aB 1) aC)))) aC)))) ((w.zipIdx d).map λp=>D.tup [.int (p.2:Int),.int p.1]) [.ro (aO x),.ro (.int x.length),.ro (aG acc),v3,v4]=.nx [.ro (aO x),.ro (.int x.length),.ro (aG (rP x.length w d acc)),w3,w4]:=by
  intro w
  induction w with
  | nil=>intro d acc v3 v4 _ _; exact ⟨v3,v4,rfl⟩
  | cons s w ih =>
   intro d acc v3 v4 hacc hd;rw [length_cons] at hd;have hl:acc.length=(fN s ((x.length:Int) - 1 - d) x.length).length:=by rw [hacc,iQ]
   obtain ⟨w3,w4,e⟩:=ih (d+1) (jT acc (fN s ((x.length:Int) - 1 - d) x.length)) (.ro (.int d)) (.ro (.int s)) (by rw [fZ hl,hacc]) (by omega);refine ⟨w3,w4,?_⟩;rw [List.zipIdx_cons,map_cons];have e1:(aT 2 (aI fS (aA (aB 2) (aA (aI bY (aA (aB 4) (aA (aE fA (aE fA (aB 1) (eC (.int 1))) (aB 3)) (aA (aB 1) aC)))) aC)))) [.ro (aO x),.ro (.int x.length),.ro (aG acc),.ro (.int d),.ro (.int s)]=.nx [.ro (aO x),.ro (.int x.length),.ro (aG (jT acc (fN s ((x.length:Int) - 1 - d) x.length))),.ro (.int d),.ro (.int s)] :=
    fM (aG (jT acc (fN s ((x.length:Int) - 1 - d) x.length))) (dP (x:=aG acc) (y:=aG (fN s ((x.length:Int) - 1 - d) x.length)) rfl (jR (x:=.int s) (y:=.int ((x.length:Int) - 1 - d)) (z:=.int x.length) rfl rfl rfl (HV (by omega) (by omega))) (EZ (by omega))) rfl
   show (match (aT 2 _) [Sv.ro (aO x),.ro (.int x.length),.ro (aG acc),.ro (.int d),.ro (.int s)] with
    | .nx ρ2=>gT _ _ _ ρ2
    | o=>o)=_
   rw [e1];exact e
 obtain ⟨w3,w4,e⟩:=step (shares x) 0 (List.replicate (x.length+1) 0) .no .no (by simp) (by rw [kR]; omega);refine gG rfl (dN [.ro (aO x),.ro (.int x.length),.no,.no,.no] (fM (.int x.length) (e9 rfl fR) rfl) (dN [.ro (aO x),.ro (.int x.length),.ro (aG (List.replicate (x.length+1) 0)),.no,.no] (fM _ (bW (x:=.lst [.int 0]) (y:=.int ((x.length+1:Nat):Int)) rfl rfl (rep0 _ (by omega))) rfl) (dN _ (Q5 (((shares x).zipIdx).map λp=>D.tup [.int (p.2:Int),.int p.1]) ?_ e) (gW rfl))));unfold mV;rw [args1 (gX (x:=aO x) rfl (AS hx hr))];show some ((((shares x).map D.int).zipIdx).map _)=_;rw [zipIdx_map,map_map];rfl
noncomputable def aAu(x:List (List Int)):List Int:=fd (vals (DV x.length 0 (shares x)) (x.length+1) 0)
section
variable(x:List (List Int))
noncomputable def Nj(f:List Int->Int->Nat->Int):Nat->List Int->Int->Int
 | 0,_,_=>0
 | j+1,a,l=>Nj f j a (-1)+(((aL x a).filter λt=>decide (l<t)).map λt=>f (aK a t) t (j+1)).sum
noncomputable def Nn:Nat->List Int->Int->Nat->Int
 | 0,_,_,_=>1
 | m+1,a,l,j=>Nj x (Nn m) j a l
end
noncomputable def Zr(w:List Int)(m:Nat):Prop:=∀ (d:Nat) (y:Int),w[d]? = some y->m<d->y=0
theorem Zr.mono{w:List Int}{m k:Nat}(h:Zr w m)(hk:m<=k):Zr w k:=λd y e hd=>h d y e (by omega)
theorem Zr.add{a b:List Int}{m:Nat}(ha:Zr a m)(hb:Zr b m):Zr (jT a b) m:=λd y e hd=>by unfold jT at e;rw [getElem?_map] at e;obtain ⟨p,ep,rfl⟩:=Option.map_eq_some_iff.1 e;obtain ⟨e1,e2⟩:=List.getElem?_zip_eq_some.1 ep;rw [ha d _ e1 hd,hb d _ e2 hd];rfl
theorem Zr.shl{w:List Int}{m:Nat}(h:Zr w m):Zr (mH w) (m+1):=λd y e hd=>by
 cases d with
 | zero=>omega
 | succ d =>
  have e:w.dropLast[d]? = some y:=e;rw [List.getElem?_dropLast] at e;split at e
  .exact h d y e (by omega)
  .cases e
theorem Zr.zJ(n m:Nat):Zr (zJ n) m:=λd y e _=>by
 unfold LL.zJ at e;rw [getElem?_replicate] at e;split at e
 .cases e; rfl
 .cases e
theorem Zr.fold{x:List (List Int)}{m k:Nat}{a:List Int}{l:Int}(h:∀ t,Zr (if t<l then mH (Sh x m (aK a t) t) else Sh x m (aK a t) t) k):∀ (ts acc:List Int),Zr acc k->Zr (ts.foldl (jU x m a l) acc) k
 | [],acc,hz=>hz
 | t::ts,acc,hz=>Zr.fold h ts _ (hz.add (h t))
theorem oS(x:List (List Int))(m:Nat)(a:List Int)(l:Int):Sh x (m+1) a l=(aL x a).foldl (jU x m a l) (zJ x.length):=rfl
theorem K7(x:List (List Int)):∀ (m:Nat) (a:List Int) (l:Int),Zr (Sh x m a l) m
 | 0,a,l=>λd y e hd=>by
  cases d with
  | zero=>omega
  | succ d =>
   have e:(List.replicate (max x.length 1 - 1) (0:Int))[d]? = some y:=e;rw [getElem?_replicate] at e;split at e
   .cases e; rfl
   .cases e
 | m+1,a,l=>by
  rw [oS];refine Zr.fold (λt=>?_) _ _ (Zr.zJ _ _);split
  .exact (K7 x m _ _).shl
  .exact (K7 x m _ _).mono (by omega)
theorem xT{x:List (List Int)}{a:List Int}{t:Int}(h:t∈aL x a):0<=t:=(eJ h).1.1
theorem fold_congr{α β:Type}{f g:β->α->β}:∀ (l:List α) (b:β),(∀ b,∀ t∈l,f b t=g b t)->l.foldl f b=l.foldl g b
 | [],b,_=>rfl
 | t::l,b,h=>by rw [foldl_cons,foldl_cons,h b t mem_cons_self]; exact fold_congr l _ λb u hu=>h b u (mem_cons_of_mem _ hu)
theorem aAv(x:List (List Int))(m:Nat)(a:List Int){l l':Int}(h:l<=0)(h':l'<=0):Sh x m a l=Sh x m a l':=by
 cases m with
 | zero=>rfl
 | succ m =>
  rw [oS,oS];refine fold_congr _ _ λacc t ht=>?_;have:=xT ht;unfold jU;rw [if_neg (by omega),if_neg (by omega)]
theorem R5(x:List (List Int))(m:Nat)(a:List Int):Zr (Sh x (m+1) a (-1)) m:=by
 rw [oS];have e:(aL x a).foldl (jU x m a (-1)) (zJ x.length)=(aL x a).foldl (λacc t=>jT acc (Sh x m (aK a t) t)) (zJ x.length):=fold_congr _ _ λacc t ht=>by have:=xT ht;unfold jU;rw [if_neg (by omega)]
 rw [e];have go:∀ (ts acc:List Int),Zr acc m->Zr (ts.foldl (λacc t=>jT acc (Sh x m (aK a t) t)) acc) m:=by
  intro ts
  induction ts with
  | nil=>intro acc h; exact h
  | cons t ts ih=>intro acc h; exact ih _ (h.add (K7 x m _ _))
 exact go _ _ (Zr.zJ _ _)
theorem R6{n:Nat}{k:Int}:∀ {a b:List Int} {d:Int},a.length=b.length->DV n d (jT a b) k=DV n d a k+DV n d b k
 | [],[],d,_=>rfl
 | [],_::_,d,h=>by simp at h
 | _::_,[],d,h=>by simp at h
 | y::a,z::b,d,h=>by have ih:=R6 (n:=n) (k:=k) (a:=a) (b:=b) (d:=d+1) (by simpa using h);show (y+z)*C (k+n - 1 - d) n+DV n (d+1) (jT a b) k=y*C (k+n - 1 - d) n+DV n (d+1) a k+(z*C (k+n - 1 - d) n+DV n (d+1) b k);rw [ih,Int.add_mul];omega
theorem CV{n:Nat}{k:Int}:∀ (m:Nat) (d:Int),DV n d (List.replicate m 0) k=0
 | 0,d=>rfl
 | m+1,d=>by rw [replicate_succ];show 0*_+DV n (d+1) (List.replicate m 0) k=0;rw [CV m (d+1),Int.zero_mul];rfl
theorem aAL{m:Nat}{j:Int}:∀ (w:List Int) (d:Int),DV (m+1) d w (j+1)=DV (m+1) d w j+DV m d w (j+1)
 | [],d=>rfl
 | y::w,d=>by have ih:=aAL (m:=m) (j:=j) w (d+1);show y*C (j+1+((m+1:Nat):Int) - 1 - d) (m+1)+DV (m+1) (d+1) w (j+1)=y*C (j+((m+1:Nat):Int) - 1 - d) (m+1)+DV (m+1) (d+1) w j+(y*C (j+1+(m:Int) - 1 - d) m+DV m (d+1) w (j+1));rw [ih,show j+1+((m+1:Nat):Int) - 1 - d=(j+m - d)+1 by omega,CO,show j+((m+1:Nat):Int) - 1 - d=j+m - d by omega,show j+1+(m:Int) - 1 - d=j+m - d by omega,Int.mul_add];omega
theorem K8{n:Nat}{k:Int}:∀ (w:List Int) (d:Int),DV n (d+1) w (k+1)=DV n d w k
 | [],d=>rfl
 | y::w,d=>by have ih:=K8 (n:=n) (k:=k) w (d+1);show y*C (k+1+n - 1 - (d+1)) n+DV n (d+1+1) w (k+1)=y*C (k+n - 1 - d) n+DV n (d+1) w k;rw [ih,show k+1+n - 1 - (d+1)=k+n - 1 - d by omega]
theorem aAw{n:Nat}{k:Int}{w:List Int}(h:w.getLast? = some 0):DV n 0 (mH w) (k+1)=DV n 0 w k:=by
 show 0*_+DV n (0+1) w.dropLast (k+1)=_;rw [K8,Int.zero_mul,Int.zero_add];have e:w=w.dropLast++[0]:=by obtain ⟨l,hl⟩:=List.getLast?_eq_some_iff.1 h;rw [hl];simp
 conv=>rhs; rw [e]
 rw [tL];show _=_+(0*_+0);rw [Int.zero_mul];omega
theorem aD2{m:Nat}:∀ (w:List Int) (d:Nat),(∀ (i:Nat) (y:Int),w[i]? = some y->m<d+i->y=0)->DV (m+1) d w 0=0
 | [],d,_=>rfl
 | y::w,d,h=>by
  have ih:=aD2 (m:=m) w (d+1) λi z e hi=>h (i+1) z (by simpa using e) (by omega);show y*C (0+((m+1:Nat):Int) - 1 - d) (m+1)+DV (m+1) ((d:Int)+1) w 0=0;rw [show ((d:Int)+1)=((d+1:Nat):Int) from rfl,ih,Int.add_zero];by_cases hd:m<d
  .rw [h 0 y rfl (by omega),Int.zero_mul]
  .rw [CP (by omega) (by omega),Int.mul_zero]
theorem CW{x:List (List Int)}{n m:Nat}{a:List Int}{l:Int}{k:Int}:∀ (ts acc:List Int),acc.length=max x.length 1->DV n 0 (ts.foldl (jU x m a l) acc) k=DV n 0 acc k+(ts.map λt=>DV n 0 (if t<l then mH (Sh x m (aK a t) t) else Sh x m (aK a t) t) k).sum
 | [],acc,_=>by simp
 | t::ts,acc,h=>by
  have hS:=i9 x m (aK a t) t;have hl:acc.length=(if t<l then mH (Sh x m (aK a t) t) else Sh x m (aK a t) t).length:=by
   rw [h];split
   .rw [nQ (by omega)]; exact hS.symm
   .exact hS.symm
  have ih:=CW (x:=x) (n:=n) (m:=m) (a:=a) (l:=l) (k:=k) ts (jU x m a l acc t) (by unfold jU; rw [fZ hl,h]);rw [foldl_cons,ih,map_cons,sum_cons];unfold jU;rw [R6 hl];omega
theorem K9{α:Type}{f g h:α->Int}{p:α->Bool}:∀ l:List α,(∀ t∈l,f t=g t+if p t=true then h t else 0)->(l.map f).sum=(l.map g).sum+((l.filter p).map h).sum
 | [],_=>rfl
 | t::l,e=>by
  have ih:=K9 l λu hu=>e u (mem_cons_of_mem _ hu);have e0:=e t mem_cons_self;rw [map_cons,sum_cons,map_cons,sum_cons,ih,e0,filter_cons]
  cases p t with
  | true=>simp; omega
  | false=>simp; omega
theorem dW{a:List Int}{t u:Int}:u∈aK a t↔u∈a\/u=t:=by unfold aK;rw [(sortI_perm (a++[t])).mem_iff];simp
theorem gH(a:List Int)(t:Int):(aK a t).length=a.length+1:=by unfold aK;rw [(sortI_perm (a++[t])).length_eq];simp
theorem aAx{x:List (List Int)}{j:Int}:DV 0 0 (CT x.length) j=1:=by unfold CT;show 1*C _ 0+DV 0 (0+1) (List.replicate _ 0) j=1;rw [CV,CN];rfl
theorem vS{x:List (List Int)}:∀ (m j:Nat) (a:List Int) (l:Int),a.length+m=x.length->(l=-1\/l∈a)->(1<=j\/l=-1)->Nn x m a l j=DV m 0 (Sh x m a l) j
 | 0,j,a,l,_,_,_=>aAx.symm
 | m+1,0,a,l,hl,hm,hj=>by
  have:l=-1:=by omega
  subst this;show 0=_;exact (aD2 (m:=m) (Sh x (m+1) a (-1)) 0 λi y e hi=>R5 x m a i y e (by omega)).symm
 | m+1,j+1,a,l,hl,hm,hj=>by
  have ihj:=vS (x:=x) (m+1) j a (-1) hl (.inl rfl) (.inr rfl);have ihm:∀ t,Nn x m (aK a t) t (j+1)=DV m 0 (Sh x m (aK a t) t) ((j:Int)+1):=λt=>vS (x:=x) m (j+1) (aK a t) t (by rw [gH]; omega) (.inr (dW.2 (.inr rfl))) (.inl (by omega));show Nj x (Nn x m) j a (-1)+(((aL x a).filter λt=>decide (l<t)).map λt=>Nn x m (aK a t) t (j+1)).sum=_;have e1:Nj x (Nn x m) j a (-1)=Nn x (m+1) a (-1) j:=rfl;rw [e1,ihj,oS,oS,CW _ _ (mI _),CW _ _ (mI _)];unfold zJ;rw [CV,CV,Int.zero_add,Int.zero_add];have key:∀ t∈aL x a,DV (m+1) 0 (if t<l then mH (Sh x m (aK a t) t) else Sh x m (aK a t) t) (((j+1:Nat):Int))=DV (m+1) 0 (if t < -1 then mH (Sh x m (aK a t) t) else Sh x m (aK a t) t) j+if decide (l<t)=true then Nn x m (aK a t) t (j+1) else 0:=λt ht=>by
   have t0:=xT ht;have tn:=(eJ ht).2;rw [if_neg (show ¬ t < -1 by omega),ihm,show (((j+1:Nat):Int))=(j:Int)+1 from rfl];by_cases h:t<l
   .rw [if_pos h,if_neg (by simp; omega),Int.add_zero];refine aAw ?_;have la:l∈a:=hm.resolve_left (by omega)
    have a1:1<=a.length:=by cases a with
     | nil=>cases la
     | cons _ _=>simp
    have hS:=i9 x m (aK a t) t;have hz:=K7 x m (aK a t) t;rw [List.getLast?_eq_getElem?,hS];have hlt:max x.length 1 - 1<(Sh x m (aK a t) t).length:=by omega
    rw [getElem?_eq_getElem hlt];congr 1;exact hz _ _ (getElem?_eq_getElem hlt) (by omega)
   .have ne:t≠l:=λz=>by
     rcases hm with q | q
     .omega
     .exact tn (z▸q)
    rw [if_neg h,if_pos (by simp; omega)];exact aAL _ _
  rw [K9 (f:=λt=>DV (m+1) 0 (if t<l then mH (Sh x m (aK a t) t) else Sh x m (aK a t) t) (((j+1:Nat):Int))) (g:=λt=>DV (m+1) 0 (if t < -1 then mH (Sh x m (aK a t) t) else Sh x m (aK a t) t) j) (h:=λt=>Nn x m (aK a t) t (j+1)) (p:=λt=>decide (l<t)) _ key]
theorem oU(x:List (List Int))(k:Nat):Nn x x.length [] (-1) k=DV x.length 0 (shares x) k:=by rw [vS x.length k [] (-1) (by simp) (.inl rfl) (.inr rfl)];unfold shares;rw [aAv x x.length [] (l:=-1) (l':=0) (by decide) (by decide)]
section
variable(x:List (List Int))
end
section
variable{x:List (List Int)}
end
noncomputable abbrev Tab:=List (Nat×Int)
noncomputable def aD3(A:Tab)(h:Nat)(v:Int):Tab:=if A.any (λq=>decide (q.1=h))=true then A.map λq=>if q.1=h then (q.1,v) else q else A++[(h,v)]
structure Okt (n:Nat) (A:Tab):Prop where
 nd:(A.map (·.1)).Nodup
 lt:∀ q∈A,q.1<2 ^ n
theorem Okt.put{n:Nat}{A:Tab}(o:Okt n A){h:Nat}(hh:h<2 ^ n)(v:Int):Okt n (aD3 A h v):=by
 unfold aD3;split
 .refine ⟨?_,λq hq=>?_⟩
  .rw [map_map];have:(A.map ((λq:Nat×Int=>q.1)∘λq=>if q.1=h then (q.1,v) else q))=A.map (·.1):=map_congr_left λq _=>by simp only [Function.comp]; split<;>rfl
   rw [this];exact o.nd
  .obtain ⟨p,hp,rfl⟩:=List.mem_map.1 hq;split
   .exact o.lt p hp
   .exact o.lt p hp
 .rename_i hc;refine ⟨?_,λq hq=>?_⟩
  .rw [map_append,nodup_append];refine ⟨o.nd,by simp,λa ha b hb e=>?_⟩;obtain ⟨q,hq,rfl⟩:=List.mem_map.1 ha;simp only [map_nil,map_cons,mem_singleton] at hb;exact hc (List.any_eq_true.2 ⟨q,hq,by simp [e,hb]⟩)
  .rcases List.mem_append.1 hq with z | z
   .exact o.lt q z
   .rw [List.mem_singleton.1 z]; exact hh
section
variable(x:List (List Int))
end
section
variable{x:List (List Int)}
end
section
variable{x:List (List Int)}
end
end LL
end
section
namespace vA
open PySem L3 L4
noncomputable def vB:gD:=cU 3 2
  (aJ (aT 2 (cN cR (aA (aB 0) aC)))
  (bF (cN B2 (aA (bQ 1 [0,2,1] (bM (aA (aB 2) aC)) (g1 0) cL (aE mulM (aE eE (aB 1) (aB 0)) (aI LL.qF (aA (aE fA (aE fA (aE dB (aB 3) (aB 2)) (eC (.int 1))) (aB 0)) (aA (aB 2) aC))))) aC))))
noncomputable def CY:gD:=cU 2 2
  (bF (cN B2 (aA (bQ 1 [0,1] (bM (aA (cN cR (aA (aB 0) aC)) aC)) (g1 0) cL (aE mulM (aE eE (aB 1) (aB 0)) (aI LL.qF (aA (aB 2) (aA (aB 0) aC))))) aC)))
noncomputable def NB:gD:=cU 4 2
  (aJ (aT 2 (eC (.int 0)))
  (aJ (dZ (MY (aA (aB 0) aC)) (pF 3)
   (aT 2 (aE dB (aE mulM (aB 2) (aB 1)) (aB 3))))
  (bF (aB 2))))
noncomputable def zM:gD:=cU 3 1
  (aJ (aT 1 (eC (.int 1)))
  (aJ (dZ (bM (aA (aB 0) aC)) (pF 2)
   (aT 1 (aE mulM (aB 1) (aE dB (aB 2) (eC (.int 1))))))
  (bF (aB 1))))
noncomputable def zN:gD:=cU 7 5
  (aJ (aT 5 (aI LL.eQ (aA (aB 0) (aA (aB 4) aC))))
  (aJ (i6 (zF (iZ (tV (jO "int" (aB 5)))) (tV (jO "bool" (aB 5))))
   (bF (eC (.bl false)))
   eP)
  (aJ (aT 6 (eC (.int 1)))
  (aJ (i6 (tV (aE J8 (cN cR (aA (aB 0) aC)) (eC (.int 0))))
   (aT 6 (aI vB (aA (aB 1) (aA (aB 4) aC))))
   eP)
  (aJ (i6 (zF (tV (aE MV (aB 5) (aB 6))) (tV (aE MV (aI CY (aA (aB 2) (aA (aB 4) aC))) (aB 5))))
   (bF (eC (.bl false)))
   eP)
  (bF (aE wJ (aI NB (aA (aB 3) (aA (aB 4) aC))) (aE mulM (aB 5) (aI zM (aA (cN cR (aA (aB 0) aC)) aC))))))))))
noncomputable def rL:gD:=cU 10 1
  (aJ (aT 1 (aI LL.dS (aA (aB 0) (aA (eC (.int 0)) (aA (eC (.int 9)) (aA (eC (.int 100003)) aC))))))
  (aJ (aT 2 (cN cR (aA (aB 1) aC)))
  (aJ (aT 3 (aI LL.aU (aA (aB 1) aC)))
  (aJ (aT 4 (aI LL.rO (aA (aB 1) aC)))
  (aJ (aT 5 (aI LL.eR (aA (aB 1) aC)))
  (aJ (i6 (zF (iZ (tV (aI LL.fK (aA (aB 3) (aA (cN wN (aA (eC (.int 1)) (aA (aB 2) aC))) aC))))) (zF (iZ (tV (aI LL.fK (aA (aB 4) (aA (aE dB (aB 2) (eC (.int 1))) aC))))) (iZ (tV (aI LL.fK (aA (aB 5) (aA (aE dB (aB 2) (eC (.int 1))) aC)))))))
   (bF (eC (.bl false)))
   eP)
  (aJ (i6 (zF (tV (aE ltM (cN aAD (aA (aB 3) aC)) (eC (.int 0)))) (zF (tV (aE ltM (cN aAD (aA (aB 4) aC)) (eC (.int 0)))) (zF (tV (aE MV (cN aDN (aA (aB 3) aC)) (aE eE (aB 4) (EE (eC (.int 1)))))) (tV (aE MV (aE eE (aB 5) (EE (eC (.int 1)))) (aE eE (aB 4) (EE (eC (.int 1)))))))))
   (bF (eC (.bl false)))
   eP)
  (aJ (aT 6 (aE iN (aE eE (aI LL.dM (aA (aI LL.dU (aA (aB 0) (aA (eC (.int 2)) aC))) (aA (eC (.int 1)) (aA (eC (.int 200017)) aC)))) (eC (.int 0))) (eC (.int 5))))
  (aJ (dZ (cK (lA (aA (aB 6) (aA (aI LL.fY (aA (aB 0) (aA (eC (.int 3)) (aA (eC (.int 300007)) aC)))) aC)))) (pF 7)
   (i6 (iZ (tV (aI zN (aA (aB 1) (aA (aB 3) (aA (aB 4) (aA (aB 5) (aA (aB 7) aC))))))))
    (bF (eC (.bl false)))
    eP))
  (aJ (i6 (tV (aE wJ (aB 2) (eC (.int 0))))
   (bF (aE aDM (aB 4) (lA (aA (eC (.int 1)) aC))))
   eP)
  (aJ (iT 8 (eM (aA (eC (.int 0)) aC)))
  (aJ (dZ (bM (aA (eC (.int 1)) (aA (aE dB (aB 2) (eC (.int 1))) aC))) (pF 9)
   (sX (p4 8 jQ (bX (cN B2 (aA (bQ 1 [3,2,9] (bM (aA (aB 9) aC)) (g1 0) cL (aE mulM (aE eE (aB 1) (aB 0)) (aI LL.qF (aA (aE fA (aE fA (aB 2) (eC (.int 1))) (aB 0)) (aA (aE fA (aE fA (aB 3) (eC (.int 1))) (aB 0)) aC))))) aC))))))
  (bF (aE aHS (cN QW (aA (aB 4) aC)) (aB 8)))))))))))))))
end vA
end
section
namespace vA
open PySem L3 L4 K24 LL
theorem R7{xs:List Int}(h:xs.length<=1000):fK [tupI xs,.int xs.length]=.ok (.bl true):=by
 unfold fK;refine gG rfl (dN [.ro (tupI xs),.ro (.int xs.length)] (xC (aDR (b:=false) (tnE (b:=true) (AK (isi (d:=tupI xs) rfl) rfl) rfl) (λ_=>AK (bW (x:=.int xs.length) (y:=.int xs.length) (e9 rfl EO) rfl vK) ?_) (λh=>by cases h)) rfl) (gW (e9 (x:=.lst ((xs.map λ_=>true).map D.bl)) ?_ ?_)))
 .rw [lC]; simp
 .rw [map_map];refine iO (xs.map D.int) rfl (by rw [length_map]; omega) ?_;exact eI D.int (λ_=>.bl true) xs λy _=>⟨[some (.int y)],rfl,rfl⟩
 .rw [CB]; simp
theorem aAy(ns:List Int)(a s:Int):∃ k,fY [.kZ ns,.int a,.int s]=.ok (.int k)/\Bg 208 k:=by
 obtain ⟨c,ec⟩:=rG ns a;obtain ⟨xs,xl,xp,ex⟩:=rH c 3 s (by decide) (by decide)
 match xs,xl,xp,ex with
 | [p,q,r],_,xp,ex =>
  have small:∀ {z:Int},z.natAbs<1000->Bg 208 z:=λ{z} hz=>by
   have h:z.natAbs<2 ^ 10:=by omega
   exact Nat.lt_of_lt_of_le h (Nat.pow_le_pow_right (by decide) (by decide))
  have first:∀ {b:SF} {d:D},b [.ro (.kZ ns),.ro (.int a),.ro (.int s),.ro (aG [p,q,r]),.no]=.rt d->aJ (aT 3 (aI LL.dM (aA (aI LL.dU (aA (aB 0) (aA (aB 1) aC))) (aA (eC (.int 3)) (aA (aB 2) aC))))) b (eF 5 [.kZ ns,.int a,.int s])=.rt d:=λh=>dN _ (fM (aG [p,q,r]) (jR (dP rfl rfl ec) rfl rfl ex) rfl) h
  have tst:tV (aE wJ (aE iN (aE eE (aB 3) (eC (.int 0))) (eC (.int 3))) (eC (.int 0))) (bU [.ro (.kZ ns),.ro (.int a),.ro (.int s),.ro (aG [p,q,r]),.no])=some (decide (p % 3=0)):=AK (bW (x:=.int (p % 3)) (y:=.int 0) (bW (x:=.int p) (y:=.int 3) rfl rfl (dI (by decide))) rfl kE) rfl;by_cases h0:p % 3=0
  .refine ⟨q % 25 - 12,?_,small (by omega)⟩;unfold fY;refine gG rfl (first (CA (QO (by rw [tst,decide_eq_true h0]) (gW (bW (x:=.int (q % 25)) (y:=.int 12) (bW (x:=.int q) (y:=.int 25) rfl rfl (dI (by decide))) rfl rfl)))))
  .obtain ⟨c2,ec2⟩:=rG ns (a+1);have hq:0<=q % 3/\q % 3<3:=⟨Int.emod_nonneg _ (by decide),Int.emod_lt_of_pos _ (by decide)⟩;obtain ⟨most,hm,em⟩:∃ most:Int,(0<most/\most.natAbs<=10 ^ 59)/\aE eE (eM (aA (aE pX (eC (.int 10)) (eC (.int 4))) (aA (aE pX (eC (.int 10)) (eC (.int 20))) (aA (aE pX (eC (.int 10)) (eC (.int 59))) aC)))) (aE iN (aE eE (aB 3) (eC (.int 1))) (eC (.int 3))) (kC [.ro (.kZ ns),.ro (.int a),.ro (.int s),.ro (aG [p,q,r]),.no])=some (.int most):=by
    have e1:eM (aA (aE pX (eC (.int 10)) (eC (.int 4))) (aA (aE pX (eC (.int 10)) (eC (.int 20))) (aA (aE pX (eC (.int 10)) (eC (.int 59))) aC))) (kC [.ro (.kZ ns),.ro (.int a),.ro (.int s),.ro (aG [p,q,r]),.no])=some (aG [10 ^ 4,10 ^ 20,10 ^ 59]):=by have e2:=RW (CI (i:=10) (j:=4) (kC [.ro (.kZ ns),.ro (.int a),.ro (.int s),.ro (aG [p,q,r]),.no]) (by decide)) (CI (i:=10) (j:=20) _ (by decide)) (CI (i:=10) (j:=59) _ (by decide));unfold eM;rw [e2];rfl
    have e3:aE iN (aE eE (aB 3) (eC (.int 1))) (eC (.int 3)) (kC [.ro (.kZ ns),.ro (.int a),.ro (.int s),.ro (aG [p,q,r]),.no])=some (.int (q % 3)):=bW (x:=.int q) (y:=.int 3) rfl rfl (dI (by decide));rcases (show q % 3=0\/q % 3=1\/q % 3=2 by omega) with z | z | z
    .exact ⟨10 ^ 4,⟨by decide,by decide⟩,bW e1 (by rw [e3,z]) rfl⟩
    .exact ⟨10 ^ 20,⟨by decide,by decide⟩,bW e1 (by rw [e3,z]) rfl⟩
    .exact ⟨10 ^ 59,⟨by decide,by decide⟩,bW e1 (by rw [e3,z]) rfl⟩
   obtain ⟨f,f0,f1,ef⟩:=RM c2 (s+70001) hm.1;have bf:Bg 207 f:=by
    unfold Bg;have h1:(10:Nat) ^ 59<2 ^ 207:=by decide
    omega
   refine ⟨f*(1 - 2*(r % 2)),?_,?_⟩
   .unfold fY;refine gG rfl (first (dN _ (xC (by rw [tst,decide_eq_false h0]) rfl) (dN [.ro (.kZ ns),.ro (.int a),.ro (.int s),.ro (aG [p,q,r]),.ro (.int f)] (fM (.int f) (jR (dP (x:=.kZ ns) (y:=.int (a+1)) rfl rfl ec2) em (by rfl) ef) rfl) (gW (bW (x:=.int f) (y:=.int (1 - 2*(r % 2))) rfl (bW (x:=.int 1) (y:=.int (2*(r % 2))) rfl (bW (x:=.int 2) (y:=.int (r % 2)) rfl (bW (x:=.int r) (y:=.int 2) rfl rfl (dI (by decide))) (nK (by decide))) rfl) (xE ?_))))));omega
   .have:Bg 1 (1 - 2*(r % 2)):=by show (1 - 2*(r % 2)).natAbs<2;omega
    exact (bf.mul this)
section
variable{x:List (List Int)}
noncomputable def gA(x:List (List Int)):List Int:=rP x.length (shares x) 0 (List.replicate (x.length+1) 0)
theorem R8(k:Int):∀ m,ev k (List.replicate m 0)=0
 | 0=>rfl
 | m+1=>by rw [replicate_succ]; show 0+k*ev k (List.replicate m 0)=0; rw [R8 k m,Int.mul_zero]; rfl
theorem EX(x:List (List Int))(k:Int):SV 0 (aAu x) k=DV x.length 0 (shares x) k:=xP _ _ (λy=>by rw [oR]) k
theorem R9(x:List (List Int))(k:Int):ev k (gA x)=fact x.length*DV x.length 0 (shares x) k:=by unfold gA;rw [K6 _ _ _ _ _ (by simp),R8,Int.zero_add];rfl
theorem CZ(x:List (List Int)):(gA x).length=x.length+1:=uK _ _ _ _ (by simp)
theorem X0(n m:Nat):aW 0 (n+m)=aW 0 n++aW n m:=by unfold aW;rw [List.range_add,map_append,map_map];congr 1;refine map_congr_left λj _=>?_;simp only [Function.comp];omega
end
end vA
end
section
namespace LL
open PySem L3 L4 K24
section
variable(x:List (List Int))
end
section
variable{x:List (List Int)}
end
theorem oV{α:Type}(c:Int)(f:α->Int):∀ L:List α,(L.map λa=>c*f a).sum=c*(L.map f).sum
 | []=>by simp
 | a::L=>by have ih:=oV c f L;simp only [map_cons,sum_cons,ih,Int.mul_add]
section
variable(x:List (List Int))
end
section
variable{x:List (List Int)}
end
section
variable{α β:Type}[DecidableEq α]
end
noncomputable abbrev T2:=List ((Nat×Int)×List Int)
noncomputable def k2(p:Nat×Int):vJ:=.inr [.inl (.inl (p.1:Int)),.inl (.inl p.2)]
noncomputable def d2(p:Nat×Int):D:=.tup [.int (p.1:Int),.int p.2]
structure Ok2 (n:Nat) (A:T2):Prop where
 nd:(A.map (·.1)).Nodup
 lt:∀ q∈A,q.1.1<2 ^ n /\ -1<=q.1.2/\q.1.2<(n:Int)/\q.2.length=n+1
noncomputable def nw(n:Nat)(old mv:List Int):List Int:=(aW 0 (n+1)).map λk=>at0 old k+at0 mv k
noncomputable def dl:Int->List Int->Int
 | _,[]=>0
 | l,t::w=>(if t<l then 1 else 0)+dl t w
section
variable{x:List (List Int)}
end
section
variable{x y:List (List Int)}
noncomputable def Turned(x y:List (List Int)):Prop:=y.length=x.length /\ ∀ a b:Int,0<=b->b<(x.length:Int)->(a∈row y ((x.length:Int) - 1 - b)↔(x.length:Int) - 1 - a∈row x b)
theorem Turned.symm(h:Turned x y):Turned y x:=by refine ⟨h.1.symm,λa b h0 h1=>?_⟩;rw [h.1] at h1 ⊢;have e:=h.2 ((x.length:Int) - 1 - a) ((x.length:Int) - 1 - b) (by omega) (by omega);rw [show (x.length:Int) - 1 - ((x.length:Int) - 1 - b)=b by omega,show (x.length:Int) - 1 - ((x.length:Int) - 1 - a)=a by omega] at e;exact e.symm
noncomputable def HX(x z:List (List Int)):Prop:=z.length=x.length /\ ∀ a b:Int,0<=a->a<(x.length:Int)->0<=b->b<(x.length:Int)->(a∈row x b↔b∈row z a)
theorem HX.symm(h:HX x y):HX y x:=⟨h.1.symm,λa b h0 h1 h2 h3=>by rw [h.1] at h1 h3; exact (h.2 b a h2 h3 h0 h1).symm⟩
end
section
variable{x:List (List Int)}
end
section
variable{x y z:List (List Int)}
structure Sd (x y z:List (List Int)):Prop where
 len:z.length=x.length+y.length
 lo:∀ t:Int,0<=t->t<(x.length:Int) -> ∀ a,a∈row z t↔a∈row x t
 hi:∀ t:Int,0<=t->t<(y.length:Int) -> ∀ a,a∈row z (t+x.length)↔a - x.length∈row y t
 rx:∀ t:Int,0<=t->t<(x.length:Int) -> ∀ a∈row x t,0<=a/\a<(x.length:Int)
 ry:∀ t:Int,0<=t->t<(y.length:Int) -> ∀ a∈row y t,0<=a/\a<(y.length:Int)
structure Cb (x y:List (List Int)) (a b c:List Int):Prop where
 lo:∀ t:Int,0<=t->t<(x.length:Int)->(t∈c↔t∈a)
 hi:∀ t:Int,0<=t->t<(y.length:Int)->(t+x.length∈c↔t∈b)
theorem gI{α:Type}(p q:α->Bool)(l:List α):(l.filter q).filter p=l.filter λa=>q a&&p a:=by
 rw [List.filter_filter];congr 1
 funext a
 exact Bool.and_comm _ _
theorem X1(p q:Nat):aW 0 (p+q)=aW 0 p++(aW 0 q).map λt=>t+(p:Int):=by rw [vA.X0];congr 1;unfold aW;rw [map_map];refine map_congr_left λk _=>?_;show (p:Int)+k=0+(k:Int)+p;omega
theorem iR{a:List Int}{t:Int}:a.contains t=true↔t∈a:=by simp
theorem HY(h:Sd x y z){a b c:List Int}(hc:Cb x y a b c):aL z c=aL x a++(aL y b).map λt=>t+(x.length:Int):=by
 unfold aL;rw [gI,gI,gI,h.len,X1,filter_append,List.filter_map];congr 1
 .refine filter_congr λt ht=>?_;have hr:=bG.1 ht;have h0:0<=t:=hr.1;have h1:t<(x.length:Int):=by omega
  have e1:c.contains t=a.contains t:=by rw [Bool.eq_iff_iff,iR,iR];exact hc.lo t h0 h1
  rw [e1];congr 1;rw [Bool.eq_iff_iff,all_eq_true,all_eq_true];refine ⟨λq l hl=>?_,λq l hl=>?_⟩
  .have:=q l ((h.lo t h0 h1 l).2 hl);rw [iR] at this ⊢;have r:=h.rx t h0 h1 l hl;exact (hc.lo l r.1 r.2).1 this
  .have hl':=(h.lo t h0 h1 l).1 hl;have:=q l hl';rw [iR] at this ⊢;have r:=h.rx t h0 h1 l hl';exact (hc.lo l r.1 r.2).2 this
 .congr 1;refine filter_congr λt ht=>?_;have hr:=bG.1 ht;have h0:0<=t:=hr.1;have h1:t<(y.length:Int):=by omega
  show (!c.contains (t+(x.length:Int))&&(row z (t+(x.length:Int))).all λl=>c.contains l)=_;have e1:c.contains (t+(x.length:Int))=b.contains t:=by rw [Bool.eq_iff_iff,iR,iR];exact hc.hi t h0 h1
  rw [e1];congr 1;rw [Bool.eq_iff_iff,all_eq_true,all_eq_true];refine ⟨λq l hl=>?_,λq l hl=>?_⟩
  .have:=q (l+x.length) ((h.hi t h0 h1 _).2 (by rw [show l+(x.length:Int) - x.length=l by omega]; exact hl));rw [iR] at this ⊢;have r:=h.ry t h0 h1 l hl;exact (hc.hi l r.1 r.2).1 this
  .have hl':=(h.hi t h0 h1 l).1 hl;have:=q _ hl';rw [iR] at this ⊢;have r:=h.ry t h0 h1 _ hl';have q:=(hc.hi _ r.1 r.2).2 this;rw [show l - (x.length:Int)+x.length=l by omega] at q;exact q
theorem Cb.left{a b c:List Int}(hc:Cb x y a b c){t:Int}(h0:0<=t)(h1:t<(x.length:Int)):Cb x y (aK a t) b (aK c t) :=
 ⟨λs s0 s1=>by rw [dW,dW,hc.lo s s0 s1],λs s0 s1=>by rw [dW,hc.hi s s0 s1];exact ⟨λq=>q.elim id λq=>by omega,.inl⟩⟩
theorem Cb.right{a b c:List Int}(hc:Cb x y a b c){t:Int}(h0:0<=t)(h1:t<(y.length:Int)):Cb x y a (aK b t) (aK c (t+x.length)) :=
 ⟨λs s0 s1=>by
  rw [dW,hc.lo s s0 s1];exact ⟨λq=>q.elim id λq=>by omega,.inl⟩,λs s0 s1=>by
  rw [dW,dW,hc.hi s s0 s1];exact ⟨λq=>q.imp id λq=>by omega,λq=>q.imp id λq=>by omega⟩⟩
theorem kG{a:List Int}{t:Int}(h:CK x a)(ht:t∈aL x a):CK x (aK a t):=by
 obtain ⟨r,n⟩:=eJ ht;refine ⟨?_,λs hs=>?_⟩
 .unfold aK;refine ((sortI_perm (a++[t])).nodup_iff).2 ?_;rw [nodup_append];exact ⟨h.1,by simp,λp hp q hq e=>n (by rw [mem_singleton] at hq; rw [<- hq,<- e]; exact hp)⟩
 .rcases dW.1 hs with q | q
  .exact h.2 s q
  .rw [q]; exact r
theorem kH{m j:Nat}{a:List Int}{l:Int}(h:CK x a)(hl:a.length+m=x.length):Nn x m a l (j+1)=Nn x m a (-1) j+(((aL x a).filter λt=>decide (l<t)).map λt=>Nn x (m - 1) (aK a t) t (j+1)).sum:=by
 cases m with
 | zero =>
  rw [xQ h (by omega)];rfl
 | succ m=>rfl
theorem E6{l:Int}{ts:List Int}(h:∀ t∈ts,l<t):ts.filter (λt=>decide (l<t))=ts:=List.filter_eq_self.2 λt ht=>by simpa using h t ht
theorem X2{l:Int}{ts:List Int}(h:∀ t∈ts,t<=l):ts.filter (λt=>decide (l<t))=[]:=List.filter_eq_nil_iff.2 λt ht=>by have:=h t ht; simp; omega
theorem NC(m:Nat)(a:List Int)(l:Int):Nn x m a l 0=if m=0 then 1 else 0:=by cases m<;>rfl
theorem ND{α:Type}(c:Int)(f:α->Int)(L:List α):(L.map λa=>f a*c).sum=(L.map f).sum*c:=by rw [Int.mul_comm,<- oV];congr 1;exact map_congr_left λa _=>Int.mul_comm _ _
theorem C0(h:Sd x y z):∀ (j M m1 m2:Nat) (a b c:List Int),m1+m2=M->CK x a->CK y b->Cb x y a b c->a.length+m1=x.length->b.length+m2=y.length->c.length+M=z.length->CK z c ->
  (∀ l:Int,l<(x.length:Int)->Nn z M c l j=Nn x m1 a l j*Nn y m2 b (-1) j)/\(∀ l:Int,0<=l -> ∀ i:Nat,j=i+1->Nn z M c (l+x.length) j=Nn x m1 a (-1) i*Nn y m2 b l j)
 | 0,M,m1,m2,a,b,c,hM,oa,ob,hc,la,lb,lc,oc=>by
  refine ⟨λl _=>?_,λl _ i e=>by cases e⟩;rw [NC,NC,NC];by_cases h1:m1=0
  .by_cases h2:m2=0
   .rw [if_pos h1,if_pos h2,if_pos (by omega)]; rfl
   .rw [if_neg h2,if_neg (by omega),Int.mul_zero]
  .rw [if_neg h1,if_neg (by omega),Int.zero_mul]
 | j+1,M,m1,m2,a,b,c,hM,oa,ob,hc,la,lb,lc,oc=>by
  have hrd:=HY h hc;have ihj:=(C0 h j M m1 m2 a b c hM oa ob hc la lb lc oc).1 (-1) (by omega);have key1:∀ t∈aL x a,Nn z (M - 1) (aK c t) t (j+1)=Nn x (m1 - 1) (aK a t) t (j+1)*Nn y m2 b (-1) (j+1):=λt ht=>by
   obtain ⟨r,n⟩:=eJ ht;have f:=fW oa;have:1<=(aL x a).length:=List.length_pos_iff.2 λe=>by rw [e] at ht; cases ht
   have htz:t∈aL z c:=by rw [hrd]; exact mem_append_left _ ht
   exact (C0 h (j+1) (M - 1) (m1 - 1) m2 (aK a t) b (aK c t) (by omega) (kG oa ht) ob (hc.left r.1 r.2) (by rw [gH]; omega) lb (by rw [gH]; omega) (kG oc htz)).1 t r.2
  have key2:∀ t∈aL y b,Nn z (M - 1) (aK c (t+x.length)) (t+x.length) (j+1)=Nn x m1 a (-1) j*Nn y (m2 - 1) (aK b t) t (j+1):=λt ht=>by
   obtain ⟨r,n⟩:=eJ ht;have f:=fW ob;have:1<=(aL y b).length:=List.length_pos_iff.2 λe=>by rw [e] at ht; cases ht
   have htz:t+(x.length:Int)∈aL z c:=by rw [hrd]; exact mem_append_right _ (List.mem_map.2 ⟨t,ht,rfl⟩)
   exact (C0 h (j+1) (M - 1) m1 (m2 - 1) a (aK b t) (aK c (t+x.length)) (by omega) oa (kG ob ht) (hc.right r.1 r.2) la (by rw [gH]; omega) (by rw [gH]; omega) (kG oc htz)).2 t r.1 j rfl
  have yz:=kH (j:=j) (l:=-1) ob lb;rw [E6 (l:=-1) λt ht=>by have:=(eJ ht).1.1; omega] at yz;refine ⟨λl hl=>?_,λl hl i e=>?_⟩
  .have e1:=kH (j:=j) (l:=l) oc lc;have e2:=kH (j:=j) (l:=l) oa la;rw [e1,ihj,hrd,filter_append,map_append,List.sum_append];rw [E6 (ts:=(aL y b).map λt=>t+(x.length:Int)) λt ht=>by obtain ⟨s,hs,rfl⟩:=List.mem_map.1 ht;have:=(eJ hs).1.1;omega]
   have s1:(((aL x a).filter λt=>decide (l<t)).map λt=>Nn z (M - 1) (aK c t) t (j+1)).sum=(((aL x a).filter λt=>decide (l<t)).map λt=>Nn x (m1 - 1) (aK a t) t (j+1)).sum*Nn y m2 b (-1) (j+1):=by rw [<- ND];congr 1;exact map_congr_left λt ht=>key1 t (List.mem_filter.1 ht).1
   have s2:(((aL y b).map λt=>t+(x.length:Int)).map λt=>Nn z (M - 1) (aK c t) t (j+1)).sum=Nn x m1 a (-1) j*((aL y b).map λt=>Nn y (m2 - 1) (aK b t) t (j+1)).sum:=by rw [map_map,<- oV];congr 1;exact map_congr_left λt ht=>key2 t ht
   rw [s1,s2,e2,yz];generalize Nn x m1 a (-1) j=A;generalize Nn y m2 b (-1) j=B;generalize ((aL y b).map λt=>Nn y (m2 - 1) (aK b t) t (j+1)).sum=S;generalize (((aL x a).filter λt=>decide (l<t)).map λt=>Nn x (m1 - 1) (aK a t) t (j+1)).sum=T;rw [Int.add_mul,Int.mul_add,Int.mul_add];omega
  .have e0:i=j:=by omega
   subst e0;have e1:=kH (j:=i) (l:=l+x.length) oc lc;have e2:=kH (j:=i) (l:=l) ob lb;rw [e1,ihj,hrd,filter_append,map_append,List.sum_append];rw [X2 (ts:=aL x a) λt ht=>by have:=(eJ ht).1; omega];have s2:((((aL y b).map λt=>t+(x.length:Int)).filter λt=>decide (l+(x.length:Int)<t)).map λt=>Nn z (M - 1) (aK c t) t (i+1)).sum=Nn x m1 a (-1) i*(((aL y b).filter λt=>decide (l<t)).map λt=>Nn y (m2 - 1) (aK b t) t (i+1)).sum:=by
    rw [List.filter_map,map_map,<- oV];have ef:(aL y b).filter ((λt=>decide (l+(x.length:Int)<t))∘λt=>t+(x.length:Int))=(aL y b).filter λt=>decide (l<t):=filter_congr λt _=>by show decide (l+(x.length:Int)<t+(x.length:Int))=decide (l<t);rw [decide_eq_decide];omega
    rw [ef];congr 1;exact map_congr_left λt ht=>key2 t (List.mem_filter.1 ht).1
   rw [s2,e2];show _+(0+_)=_;rw [Int.zero_add,<- Int.mul_add]
termination_by j M=>(j,M)
decreasing_by
 all_goals simp_wf
 all_goals first
  | (apply Prod.Lex.left; omega)
  | (apply Prod.Lex.right; omega)
theorem SA(h:Sd x y z)(k:Nat):DV z.length 0 (shares z) k=DV x.length 0 (shares x) k*DV y.length 0 (shares y) k:=by rw [<- oU,<- oU,<- oU];exact (C0 h k z.length x.length y.length [] [] [] h.len.symm rN rN ⟨λ_ _ _=>by simp,λ_ _ _=>by simp⟩ (by simp) (by simp) (by simp) rN).1 (-1) (by omega)
theorem X3:∀ (d m n:Nat) (f g:Int->Int),m+n=d->It (m+1) f=(λ_=>0)->It (n+1) g=(λ_=>0)->It (d+1) (λk=>f k*g k)=λ_=>0:=by
 have df0:∀ {f:Int->Int},It 1 f=(λ_=>0)->Df f=λ_=>0:=λ{f} h=>h;have sh:∀ (n:Nat) (g:Int->Int),It n g=(λ_=>0)->It n (λk=>g (k+1))=λ_=>0:=by
  intro n
  induction n with
  | zero=>intro g h; funext k; exact congrFun h (k+1)
  | succ n ih=>intro g h; exact ih (Df g) h
 intro d
 induction d with
 | zero =>
  intro m n f g hd hf hg;have hm:m=0:=by omega
  have hn:n=0:=by omega
  subst hm; subst hn;show Df (λk=>f k*g k)=_
  funext k
  have a:=congrFun (df0 hf) k;have b:=congrFun (df0 hg) k;unfold Df at a b ⊢;show f (k+1)*g (k+1) - f k*g k=0;rw [show f (k+1)=f k by omega,show g (k+1)=g k by omega];omega
 | succ d ih =>
  intro m n f g hd hf hg;have e:Df (λk=>f k*g k)=λk=>Df f k*g (k+1)+f k*Df g k:=by
   funext k
   unfold Df;show f (k+1)*g (k+1) - f k*g k=_;rw [Int.sub_mul,Int.mul_sub];omega
  show It (d+1) (Df λk=>f k*g k)=_;rw [e,RU];have p1:It (d+1) (λk=>Df f k*g (k+1))=λ_=>0:=by
   cases m with
   | zero =>
    have:(λk=>Df f k*g (k+1))=λ_=>0:=by
     funext k
     rw [df0 hf,Int.zero_mul]
    rw [this];exact vQ _
   | succ m=>exact ih m n (Df f) (λk=>g (k+1)) (by omega) hf (sh _ _ hg)
  have p2:It (d+1) (λk=>f k*Df g k)=λ_=>0:=by
   cases n with
   | zero =>
    have:(λk=>f k*Df g k)=λ_=>0:=by
     funext k
     rw [df0 hg,Int.mul_zero]
    rw [this];exact vQ _
   | succ n=>exact ih m n f (Df g) (by omega) hf hg
  rw [p1,p2];rfl
theorem NF{n:Nat}{f g:Int->Int}(hf:It (n+1) f=λ_=>0)(hg:It (n+1) g=λ_=>0)(h:∀ k:Nat,f k=g k)(k:Int):f k=g k:=by rw [<- xP (n+1) f (λy=>by rw [hf]) k,<- xP (n+1) g (λy=>by rw [hg]) k];rw [KW (f:=f) (g:=g) (n+1) 0 λj _=>by rw [Int.zero_add]; exact h j]
theorem HZ(h:Sd x y z)(k:Int):DV z.length 0 (shares z) k=DV x.length 0 (shares x) k*DV y.length 0 (shares y) k:=by refine NF (n:=z.length) (f:=DV z.length 0 (shares z)) (g:=λk=>DV x.length 0 (shares x) k*DV y.length 0 (shares y) k) (oR _ _ _) ?_ (SA h) k;rw [h.len];exact X3 _ x.length y.length _ _ rfl (oR _ _ _) (oR _ _ _)
end
section
variable{x y z:List (List Int)}
structure Av (x y z:List (List Int)) (s t:Int):Prop where
 len:z.length=x.length+y.length
 lo:∀ a:Int,0<=a->a<(x.length:Int) -> ∀ b,b∈row z (a+s)↔b - s∈row x a
 hi:∀ a:Int,0<=a->a<(y.length:Int) -> ∀ b,b∈row z (a+t)↔(s<=b/\b<s+x.length)\/b - t∈row y a
 rx:∀ a:Int,0<=a->a<(x.length:Int) -> ∀ b∈row x a,0<=b/\b<(x.length:Int)
 ry:∀ a:Int,0<=a->a<(y.length:Int) -> ∀ b∈row y a,0<=b/\b<(y.length:Int)
 st:(s=0/\t=x.length)\/(s=y.length/\t=0)
end
theorem aD4{i:Nat}{f:EF}{ρ:aS}{d:D}(h:f (kC ρ)=some d):iT i f ρ=.nx (ρ.set i (.ow d)):=by unfold iT;rw [h]
section
variable{x:List (List Int)}
end
section
variable{x:List (List Int)}
end
section
variable{x:List (List Int)}
end
noncomputable abbrev PR:=List (List Int)×List Int
structure aO8 (n:Nat) (R:List PR) (i:Nat) (r:PR):Prop where
 rows:Ord.Rows r.1
 len:r.1.length=n
 why:(loose r.1=[]/\r.2=[]) \/ ∃ (a b:Int) (p q:Nat) (u v:PR),loose r.1≠[]/\r.2=[a,b,(p:Int),(q:Int)]/\(0<=a/\a<(n:Int))/\(0<=b/\b<(n:Int))/\RE r.1 a b=true/\p<i/\q<i/\R[p]? = some u/\u.1=put r.1 a b/\R[q]? = some v/\v.1=put r.1 b a
theorem aD5{i:Nat}{f:EF}{ρ:aS}(d:D){ρ':aS}(h:f (bU ρ)=some d)(hi:d.AB=true)(hr:ρ.set i (.ro d)=ρ'):pR i (uF f) ρ=.nx ρ':=by unfold pR uF;rw [h,Option.bind_some,if_pos hi];show Out.nx (ρ.set i (.ro d))=_;rw [hr]
theorem aD6{i:Nat}{f:EF}{ρ:aS}(ds:List D){ρ':aS}(h:f (bU ρ)=some (.lst ds))(hi:qZ ds=true)(hr:ρ.set i (.ro (.lst ds))=ρ'):mW i f ρ=.nx ρ':=by unfold mW;rw [h];show (if qZ ds=true then _ else _)=_;rw [if_pos hi,hr]
theorem SD{n np:Nat}{b:L4.SF}{ds:List D}{d:D}(hl:ds.length=np)(h:Rt (b (eF n ds)) λe=>e=d):cU n np b ds=.ok d:=by obtain ⟨d',e,rfl⟩:=tH hl h;exact e
theorem X4{l:List Int}:cR [tupI l]=some (.int l.length):=by unfold tupI; rw [lB,length_map]
theorem vT{l:List Int}:cR [aG l]=some (.int l.length):=by unfold aG; rw [rC,length_map]
theorem E7(σ:Int->Bool)(f g:Int->Int)(F0 G0:Int)(R:List Int)(up:R.Pairwise (·<·)) :
  ∀ L P:List Int,R=P++L->(L.map λt=>if σ t=true then f t*(G0+(((R.filter λu=>decide (t<u)).filter λu=>!σ u).map g).sum) else (F0+(((R.filter λu=>decide (t<u)).filter σ).map f).sum)*g t).sum
   = (F0+((L.filter σ).map f).sum)*(G0+((L.filter λu=>!σ u).map g).sum) - F0*G0
 | [],P,_=>by simp
 | t::L,P,e=>by
  have ih:=E7 σ f g F0 G0 R up L (P++[t]) (by rw [e]; simp);have suf:R.filter (λu=>decide (t<u))=L:=by rw [e] at up ⊢;rw [List.pairwise_append] at up;obtain ⟨u1,u2,u3⟩:=up;obtain ⟨u4,u5⟩:=List.pairwise_cons.1 u2;rw [filter_append,filter_cons,if_neg (by simp)];rw [List.filter_eq_nil_iff.2 λa ha=>by have:=u3 a ha t mem_cons_self; simp; omega,nil_append];exact List.filter_eq_self.2 λa ha=>by simpa using u4 a ha
  rw [map_cons,sum_cons,ih,suf];generalize hF:((L.filter σ).map f).sum=A;generalize hG:((L.filter λu=>!σ u).map g).sum=B;by_cases s:σ t=true
  .rw [if_pos s,filter_cons,if_pos s,filter_cons,if_neg (by simp [s]),map_cons,sum_cons,hF,hG];rw [show F0+(f t+A)=f t+(F0+A) by omega,Int.add_mul (f t)];omega
  .rw [if_neg s,filter_cons,if_neg s,filter_cons,if_pos (by simpa using s),map_cons,sum_cons,hF,hG];rw [show G0+(g t+B)=g t+(G0+B) by omega,Int.mul_add (F0+A) (g t)];omega
section
variable{x:List (List Int)}
structure Sp (x:List (List Int)) (σ:Int->Bool) (a b c:List Int):Prop where
 a:∀ t:Int,0<=t->t<(x.length:Int)->(t∈a↔σ t=false\/t∈c)
 b:∀ t:Int,0<=t->t<(x.length:Int)->(t∈b↔σ t=true\/t∈c)
noncomputable def Apart(x:List (List Int))(σ:Int->Bool):Prop:=∀ b:Int,0<=b->b<(x.length:Int) -> ∀ a∈row x b,(0<=a/\a<(x.length:Int))/\σ a=σ b
theorem SE{σ:Int->Bool}(h:Apart x σ){a b c:List Int}(hs:Sp x σ a b c):aL x a=(aL x c).filter σ/\aL x b=(aL x c).filter λt=>!σ t:=by
 have key:∀ (a:List Int) (v:Bool),(∀ t:Int,0<=t->t<(x.length:Int)->(t∈a↔σ t≠v\/t∈c))->aL x a=(aL x c).filter λt=>σ t == v:=by
  intro a v ha;unfold aL;rw [gI,gI,List.filter_filter];refine filter_congr λt ht=>?_;have hr:=bG.1 ht;have t0:0<=t:=by omega
  have t1:t<(x.length:Int):=by omega
  rw [Bool.eq_iff_iff];simp only [Bool.and_eq_true,Bool.not_eq_true',all_eq_true,beq_iff_eq,contains_eq_mem,decide_eq_true_eq,decide_eq_false_iff_not]
  constructor
  .rintro ⟨n1,n2⟩;have e:σ t=v:=Classical.byContradiction λz=>n1 ((ha t t0 t1).2 (.inl z));refine ⟨⟨λl hl=>?_,e⟩,λz=>n1 ((ha t t0 t1).2 (.inr z))⟩;obtain ⟨hr2,e2⟩:=h t t0 t1 l hl;rcases (ha l hr2.1 hr2.2).1 (n2 l hl) with z | z
   .exact absurd (e2.trans e) z
   .exact z
  .rintro ⟨⟨n2,e⟩,n1⟩;refine ⟨λz=>?_,λl hl=>?_⟩
   .rcases (ha t t0 t1).1 z with y | y
    .exact y e
    .exact n1 y
   .obtain ⟨hr2,_⟩:=h t t0 t1 l hl;exact (ha l hr2.1 hr2.2).2 (.inr (n2 l hl))
 refine ⟨?_,?_⟩
 .rw [key a true λt t0 t1=>by rw [hs.a t t0 t1]; simp];exact filter_congr λt _=>by cases σ t<;>rfl
 .rw [key b false λt t0 t1=>by rw [hs.b t t0 t1]; simp];exact filter_congr λt _=>by cases σ t<;>rfl
theorem Sp.left{σ:Int->Bool}{a b c:List Int}(h:Sp x σ a b c){t:Int}(ht:σ t=true):Sp x σ (aK a t) b (aK c t) :=
 ⟨λs s0 s1=>by rw [dW,dW,h.a s s0 s1]; exact or_assoc,λs s0 s1=>by
  rw [dW,h.b s s0 s1];exact ⟨λq=>q.imp id .inl,λq=>by
   rcases q with q | q | q
   .exact .inl q
   .exact .inr q
   .rw [q]; exact .inl ht⟩⟩
theorem Sp.right{σ:Int->Bool}{a b c:List Int}(h:Sp x σ a b c){t:Int}(ht:σ t=false):Sp x σ a (aK b t) (aK c t) :=
 ⟨λs s0 s1=>by
  rw [dW,h.a s s0 s1];exact ⟨λq=>q.imp id .inl,λq=>by
   rcases q with q | q | q
   .exact .inl q
   .exact .inr q
   .rw [q]; exact .inl ht⟩,λs s0 s1=>by rw [dW,dW,h.b s s0 s1]; exact or_assoc⟩
theorem SG(x:List (List Int))(a:List Int):(aL x a).Pairwise (·<·):=by unfold aL;refine List.Pairwise.filter _ (List.Pairwise.filter _ ?_);unfold aW;exact List.Pairwise.map _ (λa b (h:a<b)=>by omega) pairwise_lt_range
theorem C2{σ:Int->Bool}(h:Apart x σ):∀ (j M m1 m2:Nat) (a b c:List Int),m1+m2=M->CK x a->CK x b->CK x c->Sp x σ a b c->a.length+m1=x.length->b.length+m2=x.length->c.length+M=x.length ->
  ∀ l:Int,Nn x M c l j=Nn x m1 a l j*Nn x m2 b l j
 | 0,M,m1,m2,a,b,c,hM,oa,ob,oc,hs,la,lb,lc=>λl=>by
  rw [NC,NC,NC];by_cases h1:m1=0
  .by_cases h2:m2=0
   .rw [if_pos h1,if_pos h2,if_pos (by omega)]; rfl
   .rw [if_neg h2,if_neg (by omega),Int.mul_zero]
  .rw [if_neg h1,if_neg (by omega),Int.zero_mul]
 | j+1,M,m1,m2,a,b,c,hM,oa,ob,oc,hs,la,lb,lc=>λl=>by
  obtain ⟨ra,rb⟩:=SE h hs;have ih0:=C2 h j M m1 m2 a b c hM oa ob oc hs la lb lc (-1);have key1:∀ t∈aL x c,σ t=true->Nn x (M - 1) (aK c t) t (j+1)=Nn x (m1 - 1) (aK a t) t (j+1)*Nn x m2 b t (j+1):=λt ht hσ=>by
   have hta:t∈aL x a:=by rw [ra]; exact List.mem_filter.2 ⟨ht,hσ⟩
   have f:=fW oa;have:1<=(aL x a).length:=List.length_pos_iff.2 λe=>by rw [e] at hta; cases hta
   exact C2 h (j+1) (M - 1) (m1 - 1) m2 (aK a t) b (aK c t) (by omega) (kG oa hta) ob (kG oc ht) (hs.left hσ) (by rw [gH]; omega) lb (by rw [gH]; omega) t
  have key2:∀ t∈aL x c,σ t=false->Nn x (M - 1) (aK c t) t (j+1)=Nn x m1 a t (j+1)*Nn x (m2 - 1) (aK b t) t (j+1):=λt ht hσ=>by
   have htb:t∈aL x b:=by rw [rb]; exact List.mem_filter.2 ⟨ht,by rw [hσ]; rfl⟩
   have f:=fW ob;have:1<=(aL x b).length:=List.length_pos_iff.2 λe=>by rw [e] at htb; cases htb
   exact C2 h (j+1) (M - 1) m1 (m2 - 1) a (aK b t) (aK c t) (by omega) oa (kG ob htb) (kG oc ht) (hs.right hσ) la (by rw [gH]; omega) (by rw [gH]; omega) t
  have sa:∀ l,Nn x m1 a l (j+1)=Nn x m1 a (-1) j+((((aL x c).filter λu=>decide (l<u)).filter σ).map λt=>Nn x (m1 - 1) (aK a t) t (j+1)).sum:=λl=>by rw [kH oa la,ra,gI,gI];congr 3;exact filter_congr λt _=>Bool.and_comm _ _
  have sb:∀ l,Nn x m2 b l (j+1)=Nn x m2 b (-1) j+((((aL x c).filter λu=>decide (l<u)).filter λu=>!σ u).map λt=>Nn x (m2 - 1) (aK b t) t (j+1)).sum:=λl=>by rw [kH ob lb,rb,gI,gI];congr 3;exact filter_congr λt _=>Bool.and_comm _ _
  have up:=SG x c;obtain ⟨P,hP⟩:∃ P,aL x c=P++(aL x c).filter λu=>decide (l<u):=by
   have go:∀ R:List Int,R.Pairwise (·<·) -> ∃ P,R=P++R.filter λu=>decide (l<u):=by
    intro R
    induction R with
    | nil=>intro _; exact ⟨[],rfl⟩
    | cons t R ih =>
     intro up;obtain ⟨u1,u2⟩:=List.pairwise_cons.1 up;by_cases e:l<t
     .refine ⟨[],?_⟩;rw [nil_append,List.filter_eq_self.2 λa ha=>?_];rcases List.mem_cons.1 ha with z | z
      .rw [z]; exact decide_eq_true e
      .have:=u1 a z; exact decide_eq_true (by omega)
     .obtain ⟨P,hP⟩:=ih u2;refine ⟨t::P,?_⟩;rw [filter_cons,if_neg (by simpa using e),cons_append,<- hP]
   exact go _ up
  rw [kH oc lc,ih0];have main:=E7 σ (λt=>Nn x (m1 - 1) (aK a t) t (j+1)) (λt=>Nn x (m2 - 1) (aK b t) t (j+1)) (Nn x m1 a (-1) j) (Nn x m2 b (-1) j) (aL x c) up _ P hP;have eq:(((aL x c).filter λt=>decide (l<t)).map λt=>Nn x (M - 1) (aK c t) t (j+1))=((aL x c).filter λt=>decide (l<t)).map λt=>if σ t=true then Nn x (m1 - 1) (aK a t) t (j+1)*(Nn x m2 b (-1) j+((((aL x c).filter λu=>decide (t<u)).filter λu=>!σ u).map λt=>Nn x (m2 - 1) (aK b t) t (j+1)).sum) else (Nn x m1 a (-1) j+((((aL x c).filter λu=>decide (t<u)).filter σ).map λt=>Nn x (m1 - 1) (aK a t) t (j+1)).sum)*Nn x (m2 - 1) (aK b t) t (j+1):=by
   refine map_congr_left λt ht=>?_;have ht:=(List.mem_filter.1 ht).1;by_cases s:σ t=true
   .rw [if_pos s,<- sb t]; exact key1 t ht s
   .rw [if_neg s,<- sa t]; exact key2 t ht (by simpa using s)
  rw [eq,main,<- sa l,<- sb l];omega
termination_by j M=>(j,M)
decreasing_by
 all_goals simp_wf
 all_goals first
  | (apply Prod.Lex.left; omega)
  | (apply Prod.Lex.right; omega)
end
theorem SH:∀ (m:Nat) (x:Int) (i:Nat),i<m->(x - i) ∣ ff x m
 | m+1,x,i,h=>by
  show (x - i) ∣ ff x m*(x - m);by_cases e:i=m
  .subst e; exact Int.dvd_mul_left _ _
  .exact Int.dvd_trans (SH m x i (by omega)) (Int.dvd_mul_right _ _)
theorem SI{m:Nat}{k:Int}:∀ (w:List Int) (d:Nat),(∀ (i:Nat) (y:Int),w[i]? = some y->m<=d+i->y=0)->k ∣ fact m*DV m d w k
 | [],d,_=>by show k ∣ fact m*0; rw [Int.mul_zero]; exact Int.dvd_zero _
 | y::w,d,h=>by
  show k ∣ fact m*(y*C (k+m - 1 - d) m+DV m ((d:Int)+1) w k);rw [Int.mul_add];refine Int.dvd_add ?_ ?_
  .rw [show fact m*(y*C (k+m - 1 - d) m)=y*(C (k+m - 1 - d) m*fact m) by rw [Int.mul_left_comm,Int.mul_comm (fact m)],uI];by_cases e:m<=d
   .rw [h 0 y rfl (by omega),Int.zero_mul]; exact Int.dvd_zero _
   .have:=SH m (k+m - 1 - d) (m - 1 - d) (by omega);rw [show k+(m:Int) - 1 - d - ((m - 1 - d:Nat):Int)=k by omega] at this;exact Int.dvd_trans this (Int.dvd_mul_left _ _)
  .have:=SI (m:=m) (k:=k) w (d+1) λi z hz hi=>h (i+1) z hz (by omega);rw [show ((d+1:Nat):Int)=(d:Int)+1 by omega] at this;exact this
section
variable{x:List (List Int)}
theorem one_dvd{m:Nat}{a:List Int}(h1:1<=m)(hl:a.length+m=x.length)(k:Nat):(k:Int) ∣ fact m*Nn x m a (-1) k:=by rw [vS m k a (-1) hl (.inl rfl) (.inr rfl)];obtain ⟨m',rfl⟩:∃ m',m=m'+1:=⟨m - 1,by omega⟩;exact SI _ 0 λi y hy hi=>R5 x m' a i y hy (by omega)
theorem E8(σ:Int->Bool):∀ l:List Int,(l.filter λt=>!σ t).length+(l.filter σ).length=l.length
 | []=>rfl
 | t::l=>by
  have ih:=E8 σ l;rw [filter_cons,filter_cons,length_cons]
  cases s:σ t with
  | true=>rw [if_neg (by simp),if_pos rfl,length_cons]; omega
  | false=>rw [if_pos (by simp),if_neg (by simp),length_cons]; omega
noncomputable def Kept(x:List (List Int))(P:Int->Int):Prop:=∀ b:Int,0<=b->b<(x.length:Int) -> ∀ a∈row x b,(0<=a/\a<(x.length:Int))/\P a=P b
theorem AU{P:Int->Int}(h:Kept x P):∀ (vs:List Int) (m:Nat) (a:List Int),vs.Nodup->CK x a->a.length+m=x.length->(∀ t:Int,0<=t->t<(x.length:Int)->(t∉a↔P t∈vs))->(∀ v∈vs,∃ t:Int,0<=t/\t<(x.length:Int)/\P t=v) ->
  ∃ K:Int,0<K /\ ∀ k:Nat,(k:Int) ^ vs.length ∣ K*Nn x m a (-1) k
 | [],m,a,_,_,_,_,_=>⟨1,by omega,λk=>by rw [length_nil,Int.pow_zero]; exact Int.one_dvd _⟩
 | v::vs,m,a,nd,oa,la,ha,hv=>by
  obtain ⟨nv,nd2⟩:=List.nodup_cons.1 nd
  let σ:Int->Bool:=λt=>decide (P t=v)
  have hA:Apart x σ:=λb b0 b1 c hc=>by obtain ⟨r,e⟩:=h b b0 b1 c hc;exact ⟨r,by show decide (P c=v)=decide (P b=v); rw [e]⟩
  let a1:=(aW 0 x.length).filter λt=>!σ t
  let b1:=(aW 0 x.length).filter λt=>σ t||a.contains t
  have m1:∀ t:Int,t∈a1↔(0<=t/\t<(x.length:Int))/\σ t=false:=λt=>by
   show t∈(aW 0 x.length).filter _↔_;rw [mem_filter,bG]
   constructor
   .rintro ⟨q1,q2⟩; exact ⟨by omega,by simpa using q2⟩
   .rintro ⟨q1,q2⟩; exact ⟨by omega,by simpa using q2⟩
  have m2:∀ t:Int,t∈b1↔(0<=t/\t<(x.length:Int))/\(σ t=true\/t∈a):=λt=>by
   show t∈(aW 0 x.length).filter _↔_;rw [mem_filter,bG,Bool.or_eq_true,contains_eq_mem,decide_eq_true_eq]
   constructor
   .rintro ⟨q1,q2⟩; exact ⟨by omega,q2.imp id of_decide_eq_true⟩
   .rintro ⟨q1,q2⟩; exact ⟨by omega,q2.imp id λe=>decide_eq_true e⟩
  have o1:CK x a1:=⟨(tK _).sublist filter_sublist,λt ht=>((m1 t).1 ht).1⟩;have o2:CK x b1:=⟨(tK _).sublist filter_sublist,λt ht=>((m2 t).1 ht).1⟩;have out:∀ t:Int,0<=t->t<(x.length:Int)->σ t=true->t∉a:=λt t0 t1 s=>(ha t t0 t1).2 (by rw [show P t=v from of_decide_eq_true s]; exact mem_cons_self);have sp:Sp x σ a1 b1 a:=⟨λt t0 t1=>by
   rw [m1]
   constructor
   .rintro ⟨_,q⟩; exact .inl q
   .rintro (q | q)
    .exact ⟨⟨t0,t1⟩,q⟩
    .refine ⟨⟨t0,t1⟩,?_⟩
     cases s:σ t with
     | false=>rfl
     | true=>exact absurd q (out t t0 t1 s),λt t0 t1=>by
   rw [m2];exact ⟨λq=>q.2,λq=>⟨⟨t0,t1⟩,q⟩⟩⟩
  -- how many there are
  have l1:a1.length+((aW 0 x.length).filter σ).length=x.length:=by have:=E8 σ (aW 0 x.length);rw [aN] at this;show ((aW 0 x.length).filter λt=>!σ t).length+_=_;omega
  have l2:b1.length=a.length+((aW 0 x.length).filter σ).length:=by
   have p:b1.Perm (a++(aW 0 x.length).filter σ):=by
    refine (List.perm_ext_iff_of_nodup o2.1 ?_).2 λt=>?_
    .rw [nodup_append];refine ⟨oa.1,(tK _).sublist filter_sublist,λp hp q hq e=>?_⟩;subst e;obtain ⟨q1,q2⟩:=List.mem_filter.1 hq;have:=bG.1 q1;exact out p (by omega) (by omega) q2 hp
    .rw [m2,mem_append,mem_filter,bG]
     constructor
     .rintro ⟨q1,q2 | q2⟩
      .exact .inr ⟨by omega,q2⟩
      .exact .inl q2
     .rintro (q | ⟨q1,q2⟩)
      .exact ⟨oa.2 t q,.inr q⟩
      .exact ⟨by omega,.inl q2⟩
   rw [p.length_eq,List.length_append]
  obtain ⟨t,t0,t1,ht⟩:=hv v mem_cons_self;have pos:1<=((aW 0 x.length).filter σ).length:=List.length_pos_of_mem (List.mem_filter.2 ⟨bG.2 (by omega),decide_eq_true ht⟩);have bl:b1.length<=x.length:=by have:=Ord.dH b1 (aW 0 x.length) o2.1 λt ht=>(List.mem_filter.1 ht).1;rw [aN] at this;exact this
  generalize hq:((aW 0 x.length).filter σ).length=q at l1 l2 pos;obtain ⟨K,K0,hK⟩:=AU h vs (m - q) b1 nd2 o2 (by omega) (λt t0 t1=>by
   rw [m2];have hat:=ha t t0 t1
   constructor
   .intro z;have n1:P t≠v:=λe=>z ⟨⟨t0,t1⟩,.inl (decide_eq_true e)⟩;have n2:t∉a:=λe=>z ⟨⟨t0,t1⟩,.inr e⟩;rcases List.mem_cons.1 (hat.1 n2) with y | y
    .exact absurd y n1
    .exact y
   .rintro z ⟨_,y | y⟩
    .exact nv (by rw [<- show P t=v from of_decide_eq_true y]; exact z)
    .exact hat.2 (mem_cons_of_mem _ z) y) λu hu=>hv u (mem_cons_of_mem _ hu)
  refine ⟨fact q*K,Int.mul_pos (nP q) K0,λk=>?_⟩;have e:=C2 hA k m q (m - q) a1 b1 a (by omega) o1 o2 oa sp (by omega) (by omega) la (-1);have d1:=one_dvd (x:=x) (a:=a1) pos (by omega) k;rw [e,length_cons,Int.pow_succ,Int.mul_comm ((k:Int) ^ vs.length)];have:fact q*K*(Nn x q a1 (-1) k*Nn x (m - q) b1 (-1) k)=(fact q*Nn x q a1 (-1) k)*(K*Nn x (m - q) b1 (-1) k):=by rw [Int.mul_assoc,Int.mul_assoc,Int.mul_left_comm K]
  rw [this];exact Int.mul_dvd_mul d1 (hK k)
theorem E9:∀ (c:Nat) (p:List Int) (K:Int),0<K->(∀ k:Nat,1<=k->(k:Int) ^ c ∣ K*ev k p) -> ∀ i,i<c->at0 p i=0
 | 0,p,K,_,_,i,hi=>by omega
 | c+1,[],K,_,_,i,_=>rfl
 | c+1,y::p,K,K0,h,i,hi=>by
  have ey:∀ k:Nat,ev k (y::p)=y+k*ev k p:=λk=>rfl;have y0:y=0:=by
   have:=h (K*y).natAbs.succ (by omega);rw [ey,Int.mul_add,Int.pow_succ] at this;have d1:(((K*y).natAbs.succ:Nat):Int) ∣ K*y:=by
    have a:=Int.dvd_trans (Int.dvd_mul_left _ _) this;have b:(((K*y).natAbs.succ:Nat):Int) ∣ K*((((K*y).natAbs.succ:Nat):Int)*ev ((K*y).natAbs.succ:Nat) p):=by rw [Int.mul_left_comm]; exact Int.dvd_mul_right _ _
    have:=Int.dvd_sub a b
    rwa [Int.add_sub_cancel] at this
   have z:K*y=0:=by
    have:=Int.natAbs_dvd_natAbs.2 d1;rw [Int.natAbs_natCast] at this;by_cases e:(K*y).natAbs=0
    .omega
    .have:=Nat.le_of_dvd (by omega) this;omega
   rcases Int.mul_eq_zero.1 z with q | q
   .omega
   .exact q
  subst y0
  cases i with
  | zero=>rfl
  | succ i =>
   have ih:=E9 c p K K0 (λk hk=>?_) i (by omega)
   .show (((0:Int)::p)[((i+1:Nat):Int).toNat]?).getD 0=0;rw [Int.toNat_natCast,getElem?_cons_succ];unfold at0 at ih;rw [Int.toNat_natCast] at ih;exact ih
   .have:=h k hk;rw [ey,Int.zero_add,Int.pow_succ,Int.mul_left_comm,Int.mul_comm ((k:Int) ^ c)] at this;exact Int.dvd_of_mul_dvd_mul_left (by omega) this
theorem SJ{P:Int->Int}(h:Kept x P){vs:List Int}(nd:vs.Nodup)(hv:∀ v∈vs,∃ t:Int,0<=t/\t<(x.length:Int)/\P t=v)(ha:∀ t:Int,0<=t->t<(x.length:Int)->P t∈vs):∀ i,i<vs.length->at0 (vA.gA x) i=0:=by obtain ⟨K,K0,hK⟩:=AU h vs x.length [] nd rN (by simp) (λt t0 t1=>⟨λ_=>ha t t0 t1,λ_=>by simp⟩) hv;refine E9 vs.length (vA.gA x) K K0 λk _=>?_;rw [vA.R9,<- oU];have:=hK k;rw [Int.mul_left_comm];exact Int.dvd_trans this (Int.dvd_mul_left _ _)
end
end LL
end
section
-- CHANGE: your row's module here,as the last of these rows
namespace L2
open PySem PySem.Spec PyProof.Rows
noncomputable abbrev Key:=Sum Int Str
noncomputable def AV:Key->Value->Bool
 | .inl k,v=>Value.isInt k v
 | .inr x,v=>Value.isStrOf x v
noncomputable def aH4(w:World):Key->Int
 | .inl k=>hashInt k
 | .inr x=>hashStr w x
theorem dG:∀ {k:Key} {v:Value},AV k v=true->(∃ i t,k=Sum.inl i/\v=Value.int i t)\/(∃ x t,k=Sum.inr x/\v=Value.str x t)
 | .inl i,v,h=>by obtain ⟨t,e⟩:=Value.isInt_shape (k:=i) (v:=v) h;exact .inl ⟨i,t,rfl,e⟩
 | .inr x,v,h=>by obtain ⟨t,e⟩:=Value.isStrOf_shape (x:=x) (v:=v) h;exact .inr ⟨x,t,rfl,e⟩
theorem NG(i:Int)(t:Tok):AV (.inl i) (.int i t)=true:=by simp [AV,Value.isInt]
theorem NH(x:Str)(t:Tok):AV (.inr x) (.str x t)=true:=by simp [AV,Value.isStrOf]
theorem aAz(a b:Int):decide ((Sum.inl a:Key)=Sum.inl b)=(a == b):=by
 by_cases e:a=b
 .subst e; simp
 .have h:¬ (Sum.inl a:Key)=Sum.inl b:=λq=>e (Sum.inl.inj q);rw [decide_eq_false h];exact (beq_eq_false_iff_ne.mpr e).symm
theorem aBA(a b:Str):decide ((Sum.inr a:Key)=Sum.inr b)=decide (a=b):=by
 by_cases e:a=b
 .subst e; simp
 .have h:¬ (Sum.inr a:Key)=Sum.inr b:=λq=>e (Sum.inr.inj q);rw [decide_eq_false h,decide_eq_false e]
theorem aBB(a:Int)(b:Str):decide ((Sum.inl a:Key)=Sum.inr b)=false:=decide_eq_false (λq=>nomatch q)
theorem aBC(a:Str)(b:Int):decide ((Sum.inr a:Key)=Sum.inl b)=false:=decide_eq_false (λq=>nomatch q)
noncomputable def bC(prog:Program)(w:World):PySem.KeyKind prog w Key where
 is:=AV
 hash:=aH4 w
 inj:=λv a b ha hb=>by
  rcases dG ha with ⟨i,t,rfl,rfl⟩ | ⟨x,t,rfl,rfl⟩
  .rcases dG hb with ⟨j,u,rfl,e⟩ | ⟨y,u,rfl,e⟩
   .injection e with e1 _; rw [e1]
   .exact nomatch e
  .rcases dG hb with ⟨j,u,rfl,e⟩ | ⟨y,u,rfl,e⟩
   .exact nomatch e
   .injection e with e1 _; rw [e1]
 byValue:=λk v h=>by rcases dG h with ⟨i,t,rfl,rfl⟩ | ⟨x,t,rfl,rfl⟩<;>rfl
 pyHash:=λhv h=>by
  rcases dG hv with ⟨i,t,rfl,rfl⟩ | ⟨x,t,rfl,rfl⟩
  .exact wpAny_pyHash_int h
  .exact wpAny_pyHash_str h
 eqBool:=λhu hv h=>by
  rcases dG hu with ⟨i,t,rfl,rfl⟩ | ⟨x,t,rfl,rfl⟩
  .rcases dG hv with ⟨j,u,rfl,rfl⟩ | ⟨y,u,rfl,rfl⟩
   .rw [aAz] at h; exact wpAny_eqBool_int h
   .rw [aBB] at h; exact SeqAt.EqAt.int_str i t y u _ _ _ _ h
  .rcases dG hv with ⟨j,u,rfl,rfl⟩ | ⟨y,u,rfl,rfl⟩
   .rw [aBC] at h; exact SeqAt.EqAt.str_int x t j u _ _ _ _ h
   .rw [aBA] at h; exact wpAny_eqBool_str h
 «strs»:=λk x t v h=>by
  rcases dG h with ⟨i,u,rfl,e⟩ | ⟨y,u,rfl,e⟩
  .exact nomatch e
  .injection e with e1 _;subst e1;cases v<;>rfl
theorem FA(prog:Program)(w:World)(i:Int)(t:Tok):(bC prog w).is (.inl i) (.int i t)=true:=NG i t
theorem FC(prog:Program)(w:World)(x:Str)(t:Tok):(bC prog w).is (.inr x) (.str x t)=true:=NH x t
end L2
namespace L2
open PySem PySem.Spec PyProof.Rows
noncomputable abbrev N1:=List (Sum Key (List Key))
noncomputable abbrev KX:=Sum Key N1
section
variable{prog:Program}{w:World}{K:Type}[dK:DecidableEq K](knd:KeyKind prog w K)
noncomputable def qG(h:Heap):Sum K (List K)->Value->Prop
 | .inl k,v=>knd.is k v=true
 | .inr ks,v=>∃ b,v=.ref b/\IsTupleKey knd h ks b
inductive gJ (h:Heap):List (Sum K (List K))->List Value->Prop
 | nil:gJ h [] []
 | cons {k:Sum K (List K)} {v:Value} {ks:List (Sum K (List K))} {vs:List Value}:qG knd h k v->gJ h ks vs->gJ h (k::ks) (v::vs)
noncomputable def gZ(h:Heap)(ks:List (Sum K (List K)))(a:Addr):Prop:=∃ o items n,h.get? a=some o/\o.cls=.type "tuple" /\ o.data=.seq items n/\gJ knd h ks items.toList
variable{knd}
theorem qG.inj{h:Heap}{v:Value}:∀ {x y:Sum K (List K)},qG knd h x v->qG knd h y v->x=y
 | .inl a,.inl b,hx,hy=>by rw [knd.inj _ _ _ hx hy]
 | .inl a,.inr b,hx,⟨q,e,_⟩=>by subst e; exact absurd (knd.byValue _ _ hx) (by simp [carriedByValue])
 | .inr a,.inl b,⟨q,e,_⟩,hy=>by subst e; exact absurd (knd.byValue _ _ hy) (by simp [carriedByValue])
 | .inr a,.inr b,⟨q,e,hx⟩,⟨r,f,hy⟩=>by subst e;injection f with f;subst f;rw [hx.inj hy]
theorem gJ.inj{h:Heap}{x:List (Sum K (List K))}{vs:List Value}(hx:gJ knd h x vs):∀ {y},gJ knd h y vs->x=y:=by
 induction hx with
 | nil=>intro y hy; cases hy; rfl
 | cons h1 _ ih =>
  intro y hy
  cases hy with
  | cons h2 t2=>rw [h1.inj h2,ih t2]
theorem gZ.typeIs{s:Shared}{ks:List (Sum K (List K))}{a:Addr}(x:gZ knd s.heap ks a):s.TypeIs (.ref a) "tuple" := let ⟨o,_,_,ho,hc,_⟩:=x; ⟨o,ho,hc⟩
theorem gZ.inj{h:Heap}{a:Addr}{x y:List (Sum K (List K))}(hx:gZ knd h x a)(hy:gZ knd h y a):x=y:=by obtain ⟨o,its,n,ho,_,hd,hi⟩:=hx;obtain ⟨o',its',n',ho',_,hd',hi'⟩:=hy;rw [ho] at ho';cases ho';rw [hd] at hd';cases hd';exact hi.inj hi'
theorem gZ.keeps{h h':Heap}{ks:List (Sum K (List K))}{a d:Addr}{o:Obj}{es ep}(x:gZ knd h ks a)(ho:h.get? d=some o)(hd:o.data=.dict es ep)(hs:Heap.SameBut d h h'):gZ knd h' ks a:=by
 obtain ⟨q,items,n,hq,hc,hi,his⟩:=x;have ne:a≠d:=λz=>by subst z;rw [hq] at ho;cases ho;rw [hi] at hd;cases hd
 refine ⟨q,items,n,(hs.2 a ne).trans hq,hc,hi,?_⟩;have go:∀ {ks:List (Sum K (List K))} {vs:List Value},gJ knd h ks vs->gJ knd h' ks vs:=by
  intro ks vs t
  induction t with
  | nil=>exact .nil
  | @cons k v ks vs h1 _ ih =>
   refine .cons ?_ ih
   cases k with
   | inl k=>exact h1
   | inr k=>obtain ⟨b,e,hb⟩:=h1; exact ⟨b,e,hb.keeps ho hd hs⟩
 exact go his
noncomputable def rQ(knd:KeyKind prog w K):Sum K (List K)->Int
 | .inl k=>knd.hash k
 | .inr ks=>tupleKeyHash knd ks
noncomputable def lF:Sum K (List K)->Nat
 | .inl _=>1
 | .inr ks=>ks.length+1
noncomputable def xU(knd:KeyKind prog w K)(ks:List (Sum K (List K))):Int:=reduceHash (Builtin.Tuple.tupleHashOf (ks.map (rQ knd)))
noncomputable def oW(ks:List (Sum K (List K))):Nat:=(ks.map lF).sum+1
variable{s:Shared}{A:Around}{E:Value->Shared->Prop}
theorem NI{k:Sum K (List K)}{v:Value}{Q:Int->Shared->Prop}(hu:A.units<cLine)(hk:qG knd s.heap k v)(h:Q (rQ knd k) { s with toks:=s.toks+lF k }):wpAny (model prog w) A (pyHash v) Q E s:=by
 cases k with
 | inl k=>exact knd.pyHash hk h
 | inr k =>
  obtain ⟨b,e,hb⟩:=hk;subst e;exact wpAny_pyHash_tuple hu hb h
theorem xV{ks:List K}{b:Addr}{h:Heap}(x:IsTupleKey knd h ks b):∃ items,h.IsTuple b items:=by obtain ⟨o,items,n,ho,hc,hd,_⟩:=x;exact ⟨items,o,ho,hc,n,hd⟩
end
section
variable{P:Program}{w:World}{A:Around}{E:Value->Shared->Prop}{s:Shared}
theorem X5{x y:Sum Key (List Key)}{u v:Value}{Q:Bool->Shared->Prop}(hu:A.units<cLine)(hx:qG (bC P w) s.heap x u)(hy:qG (bC P w) s.heap y v)(h:Q (decide (x=y)) s):wpAny (model P w) A (eqBool u v) Q E s:=by
 cases x with
 | inl x =>
  cases y with
  | inl y =>
   refine (bC P w).eqBool hx hy ?_;rw [show decide (x=y)=decide ((Sum.inl x:Sum Key (List Key))=Sum.inl y) by simp];exact h
  | inr y =>
   obtain ⟨b,e,hb⟩:=hy;subst e;obtain ⟨its,hb⟩:=xV hb;rw [show decide ((Sum.inl x:Sum Key (List Key))=Sum.inr y)=false by simp] at h;rcases dG hx with ⟨i,t,rfl,rfl⟩ | ⟨i,t,rfl,rfl⟩
   .exact SeqAt.EqAt.int_tuple i t hb hu P w E Q h
   .exact SeqAt.EqAt.str_tuple i t hb hu P w E Q h
 | inr x =>
  obtain ⟨a,e,ha⟩:=hx;subst e
  cases y with
  | inl y =>
   obtain ⟨its,ha⟩:=xV ha;rw [show decide ((Sum.inr x:Sum Key (List Key))=Sum.inl y)=false by simp] at h;rcases dG hy with ⟨i,t,rfl,rfl⟩ | ⟨i,t,rfl,rfl⟩
   .exact SeqAt.EqAt.tuple_int i t ha hu P w E Q h
   .exact SeqAt.EqAt.tuple_str i t ha hu P w E Q h
  | inr y =>
   obtain ⟨b,e,hb⟩:=hy;subst e;refine wpAny_eqBool_tuple hu ha hb ?_;rw [show decide (x=y)=decide ((Sum.inr x:Sum Key (List Key))=Sum.inr y) by simp];exact h
theorem AW:∀ (rest:List Value) (left:List (Sum Key (List Key))) (b:Array Int) (s:Shared) (R:Array Int->Shared->Prop),A.units<cLine->gJ (bC P w) s.heap left rest ->
  (∀ b':Array Int,b'.toList=b.toList++left.map (rQ (bC P w))->R b' { s with toks:=s.toks+(left.map lF).sum }) ->
  wpAny (model P w) A (forIn rest b λx r=>do
   let r' <- pyHash x
   pure (ForInStep.yield (r.push r'))) R E s
 | [],left,b,s,R,hu,t,k=>by cases t;exact wpAny_pure (k b (by simp))
 | v::rest,left,b,s,R,hu,t,k=>by
  cases t with
  | @cons kk _ ks _ h1 h2 =>
   rw [forIn_cons];refine wpAny_bind (wpAny_bind (NI hu h1 (wpAny_pure ?_)));refine AW rest ks _ _ _ hu h2 λb' e=>?_;have:=k b' (by rw [e]; simp);simpa [Nat.add_assoc] using this
theorem NJ{ks:List (Sum Key (List Key))}{a:Addr}{Q:Int->Shared->Prop}(hu:A.units+1<cLine)(hk:gZ (bC P w) s.heap ks a)(h:Q (xU (bC P w) ks) { s with toks:=s.toks+oW ks }):wpAny (model P w) A (pyHash (.ref a)) Q E s:=by
 have hT:=hk.typeIs;obtain ⟨o,its,n,ho,_,hd,hi⟩:=hk;have sl:=F.slot_tuple_hash;unfold pyHash pyHashByItsType
 wp_walk using wpAny_cRoomFor_or (.inr (by omega)),wpAny_specialOf hT sl.lookup,(wpAny_callSpecialIfBoundUnlessNone?_slot hT sl (wpAny_call_entry sl hT F.entry_tuple_hash ?_ (F.args_tuple_hash_1 _)))
 rw [hd];refine wpAny_pure (wpAny_pure (wpAny_bind ?_));rw [<- Array.forIn_toList];refine AW its.toList ks #[] s _ hu hi λb eb=>?_;dsimp only;rw [eb,nil_append];unfold xU reduceHash at h;refine wpAny_ret_mkInt ?_;have e2:s.toks+(ks.map lF).sum+1=s.toks+oW ks:=by unfold oW; omega
 show wpAny (model P w) A (pyHashByItsType.reduced _) Q E { s with toks:=s.toks+(ks.map lF).sum+1 };rw [e2];unfold pyHashByItsType.reduced;generalize Builtin.Tuple.tupleHashOf (ks.map (rQ (bC P w)))=z at h ⊢;by_cases hz:(decide (-(2 ^ 63:Int)<=z)&&decide (z<2 ^ 63))=true
 .rw [if_pos hz] at h ⊢;exact wpAny_pure h
 .rw [if_neg hz] at h ⊢;refine wpAny_bind (wpAny_rule ?_); exact wpAny_pure h
theorem eq_loop:∀ (x y:List (Sum Key (List Key))) (xs ys:List Value) (R:Option Fin×Unit->Shared->Prop),A.units<cLine->gJ (bC P w) s.heap x xs->gJ (bC P w) s.heap y ys ->
  (x≠y->R (some (.done (.ret (.bool false))),()) s)->((x=y↔xs.length=ys.length)->R (none,()) s) ->
  wpAny (model P w) A (forIn (xs.zip ys) ((none,()):Option Fin×Unit) λp _=>do
   let c <- eqBool p.1 p.2
   if (!c)=true then do
    let q <- ret (Value.bool false)
    pure (ForInStep.done (some q,()))
   else pure (ForInStep.yield (none,()))) R E s
 | [],y,xs,ys,R,hu,hx,hy,k1,k2=>by cases hx;refine wpAny_pure (k2 ?_);cases hy<;>simp
 | kx::x,[],xs,ys,R,hu,hx,hy,k1,k2=>by cases hx;cases hy;exact wpAny_pure (k2 (by simp))
 | kx::x,ky::y,xs,ys,R,hu,hx,hy,k1,k2=>by
  cases hx with
  | @cons _ u _ xs hx1 hx2 =>
   cases hy with
   | @cons _ v _ ys hy1 hy2 =>
    rw [List.zip_cons_cons,forIn_cons];refine wpAny_bind (wpAny_bind (X5 hu hx1 hy1 ?_));by_cases hk:kx=ky
    .subst hk;rw [decide_eq_true rfl,if_neg (by decide)];refine wpAny_pure (eq_loop x y xs ys R hu hx2 hy2 (λn=>k1 (by simpa using n)) λe=>k2 ?_);simpa using e
    .rw [decide_eq_false hk,if_pos (by decide)];exact wpAny_bind (wpAny_pure (wpAny_pure (wpAny_pure (k1 (by simp [hk])))))
theorem X6{x y:List (Sum Key (List Key))}{a b:Addr}{Q:Bool->Shared->Prop}(hu:A.units+1<cLine)(hx:gZ (bC P w) s.heap x a)(hy:gZ (bC P w) s.heap y b)(h:Q (decide (x=y)) s):wpAny (model P w) A (eqBool (.ref a) (.ref b)) Q E s:=by
 have tx:=hx.typeIs;have ty:=hy.typeIs;have sl:=F.slot_tuple_eq;by_cases hab:a=b
 .subst hab;rw [hx.inj hy,decide_eq_true rfl] at h;exact SeqAt.EqAt.same _ P w E Q h
 .obtain ⟨oa,xs,na,hoa,_,hda,hia⟩:=hx;obtain ⟨oc,ys,nb,hob,_,hdb,hib⟩:=hy;unfold eqBool;rw [if_neg (by simpa using hab)];have hu0:A.units<cLine:=by omega
  apply wpAny_holding; apply wpAny_bind;refine (wpAny_richCompare_same_room (op:=.Eq) tx ty sl (wpAny_call_entry sl tx F.entry_tuple_eq ?_ (F.args_tuple_eq_2 _ _)) hu0);unfold Builtin.«tuple.__eq__»
  wp_walk using wpAny_isInstance ty isSubtype_tuple_tuple,wpAny_tupleItemsOf hoa hda,wpAny_tupleItemsOf hob hdb
  refine eq_loop x y xs.toList ys.toList _ hu hia hib (λn=>?_) λe=>?_
  .rw [decide_eq_false n] at h;exact wpAny_pure ⟨_,rfl,(λz=>nomatch z),wpAny_truthy_bool h⟩
  .refine wpAny_pure ⟨_,rfl,(λz=>nomatch z),?_⟩;have e2:(xs.size == ys.size)=decide (x=y):=by
    by_cases q:x=y
    .rw [decide_eq_true q]; simpa using e.1 q
    .rw [decide_eq_false q]; simpa using λz=>q (e.2 z)
   show wpAny (model P w) A (truthOfDropped (.bool (xs.size == ys.size))) Q E s;rw [e2];exact wpAny_truthy_bool h
theorem xW{d:Nat}:∀ (vs:List Value) (R:Option Bool×Unit->Shared->Prop),(∀ v∈vs,∀ Q:Bool->Shared->Prop,Q true s->wpAny (model P w) A (eqIsQuiet d v) Q E s)->R (none,()) s ->
  wpAny (model P w) A (forIn vs ((none,()):Option Bool×Unit) λy _=>do
   let c <- eqIsQuiet d y
   if (!c)=true then pure (ForInStep.done (some false,()))
   else pure (ForInStep.yield (none,()))) R E s
 | [],R,hq,k=>wpAny_pure k
 | v::vs,R,hq,k=>by rw [forIn_cons];refine wpAny_bind (wpAny_bind (hq v mem_cons_self _ ?_));rw [if_neg (by decide)];exact wpAny_pure (xW vs R (λu hu=>hq u (mem_cons_of_mem _ hu)) k)
theorem AX{d:Nat}{a:Addr}{o:Obj}{xs:Array Value}{n:Nat}{Q:Bool->Shared->Prop}(tx:s.TypeIs (Value.ref a) "tuple")(ho:s.heap.get? a=some o)(hd:o.data=.seq xs n)(hq:∀ v∈xs.toList,∀ Q:Bool->Shared->Prop,Q true s->wpAny (model P w) A (eqIsQuiet d v) Q E s)(h:Q true s) :
  wpAny (model P w) A (eqIsQuiet (d+1) (.ref a)) Q E s:=by
 have sl:=F.slot_tuple_eq;unfold eqIsQuiet;refine wpAny_bind (wpAny_specialOf tx sl.lookup ?_);show wpAny (model P w) A (isInstance (.ref a) (.type "tuple") >>= _) _ _ s;refine wpAny_bind (wpAny_isInstance tx isSubtype_tuple_tuple ?_);rw [if_neg (by decide)];dsimp only;refine wpAny_bind (wpAny_seqItems ho hd (wpAny_bind ?_));show wpAny _ _ (forIn xs _ _) _ _ s;rw [<- Array.forIn_toList];exact xW xs.toList _ hq (wpAny_pure h)
theorem IA{x:List (Sum Key (List Key))}{a:Addr}{Q:Bool->Shared->Prop}(hx:gZ (bC P w) s.heap x a)(h:Q true s):wpAny (model P w) A (eqIsQuiet 8 (.ref a)) Q E s:=by
 have tx:=hx.typeIs;obtain ⟨o,xs,n,ho,_,hd,hi⟩:=hx;refine AX (d:=7) tx ho hd ?_ h;have go:∀ {ks:List (Sum Key (List Key))} {vs:List Value},gJ (bC P w) s.heap ks vs -> ∀ v∈vs,∀ Q:Bool->Shared->Prop,Q true s->wpAny (model P w) A (eqIsQuiet 7 v) Q E s:=by
  intro ks vs t
  induction t with
  | nil=>intro v hv; cases hv
  | @cons k v ks vs h1 _ ih =>
   intro u hu Q k0;rcases List.mem_cons.1 hu with e | hu
   .subst e
    cases k with
    | inl k =>
     rw [eqIsQuiet_byValue _ ((bC P w).byValue _ _ h1)];exact wpAny_pure k0
    | inr k =>
     obtain ⟨b,e,hb⟩:=h1;subst e;have tb:=hb.typeIs;obtain ⟨o',xs',n',ho',_,hd',hi'⟩:=hb;refine AX (d:=6) tb ho' hd' (λv' hv' Q' k'=>?_) k0;rw [eqIsQuiet_byValue _ (hi'.byValue v' hv')];exact wpAny_pure k'
   .exact ih u hu Q k0
 exact go hi
noncomputable def lG(P:Program)(w:World):HeapKind P w (List (Sum Key (List Key))) where
 is:=gZ (bC P w)
 hash:=xU (bC P w)
 draws:=oW
 room:=λA=>A.units+1<cLine
 inj:=λhx hy=>hx.inj hy
 keeps:=λx ho he hs=>x.keeps ho he hs
 pyHash:=λhu hk h=>NJ hu hk h
 eqBool:=λhu hx hy h=>X6 hu hx hy h
 quiet:=λhk h=>IA hk h
theorem nest_room(hu:A.units+2<cLine):(lG P w).room A.in1:=hu
end
end L2
namespace L2
open PySem PySem.Spec PyProof.Rows
inductive V where
 | non | bl (b:Bool) | int (i:Int) | str (x:Str) | NK (b:Array UInt8) | flt (b:UInt64) | ref (a:Addr) | ty (n:String)
 deriving DecidableEq
noncomputable def RelV:V->Value->Prop
 | .non,u=>u=Value.none
 | .bl b,u=>u=Value.bool b
 | .int i,u=>∃ t,u=Value.int i t
 | .str x,u=>∃ t,u=Value.str x t
 | .NK b,u=>∃ t,u=Value.bytes b t
 | .flt b,u=>∃ t,u=Value.float b t
 | .ref a,u=>u=Value.ref a
 | .ty n,u=>u=Value.type n
noncomputable abbrev Vals:List V->List Value->Prop:=Paired RelV
theorem Vals.length{xs:List V}{us:List Value}(r:Vals xs us):xs.length=us.length:=Paired.length r
theorem Vals.get:∀ {xs:List V} {us:List Value} {i:Nat} {x:V},Vals xs us->xs[i]? = some x -> ∃ u,us[i]? = some u/\RelV x u
 | _,_,_,_,.nil,e=>by simp at e
 | _,_,0,_,.cons r _,e=>by simp at e; subst e; exact ⟨_,rfl,r⟩
 | _,_,i+1,x,.cons _ t,e=>by obtain ⟨u,h1,h2⟩:=Vals.get (i:=i) (x:=x) t (by simpa using e);exact ⟨u,by simpa using h1,h2⟩
theorem Vals.set{x:V}{u:Value}(r:RelV x u):∀ {xs:List V} {us:List Value} (i:Nat),Vals xs us->Vals (xs.set i x) (us.set i u)
 | _,_,_,.nil=>.nil
 | _,_,0,.cons _ t=>.cons r t
 | _,_,i+1,.cons q t=>.cons q (Vals.set r i t)
theorem Vals.append:∀ {xs ys:List V} {us ws:List Value},Vals xs us->Vals ys ws->Vals (xs++ys) (us++ws)
 | _,_,_,_,.nil,s=>s
 | _,_,_,_,.cons r t,s=>.cons r (Vals.append t s)
theorem Vals.take:∀ {xs:List V} {us:List Value} (n:Nat),Vals xs us->Vals (xs.take n) (us.take n)
 | _,_,0,_=>.nil
 | _,_,_+1,.nil=>.nil
 | _,_,n+1,.cons r t=>.cons r (Vals.take n t)
theorem Vals.drop:∀ {xs:List V} {us:List Value} (n:Nat),Vals xs us->Vals (xs.drop n) (us.drop n)
 | _,_,0,r=>r
 | _,_,_+1,.nil=>.nil
 | _,_,n+1,.cons _ t=>Vals.drop n t
noncomputable def nW:Option V->Option Value->Prop
 | some v,some u=>RelV v u
 | none,none=>True
 | _,_=>False
noncomputable def KV{κ:Type}:List (κ×V)->List (κ×Value)->Prop:=Paired λ(p:κ×V) (q:κ×Value)=>p.1=q.1/\RelV p.2 q.2
noncomputable def kV:Key->V
 | .inl i=>.int i
 | .inr x=>.str x
inductive HO where
 | lst (xs:List V)
 | tup (xs:List V)
 | dK (kvs:List (Key×V)) | dT (kvs:List (List Key×V))
 | dX (o:Obj) (kvs:List (KX×V×V))
 | set (S:Int->Bool) (n:Nat)
 | ins (C dx:Addr) (fs:List (Str×V))
 | own (x:Addr)
 | xd (fs:List (Str×V))
 | met (f x:Addr)
 | rng (lo hi:Int)
 | xX (o:Obj) (u:HO)
 | NL (q:Str)
 | ext (φ:Heap->Prop)
noncomputable abbrev Hp:=Addr->Option HO
noncomputable def upd(H:Hp)(a:Addr)(o:HO):Hp:=λb=>if b=a then some o else H b
theorem aV{H:Hp}{a:Addr}{o:HO}:upd H a o a=some o:=by unfold upd; rw [if_pos rfl]
theorem bA{H:Hp}{a b:Addr}{o:HO}(h:b≠a):upd H a o b=H b:=by unfold upd; rw [if_neg h]
theorem aAM{H:Hp}{a b:Addr}{o u:HO}(h:H a=some o)(h':H b=some u)(d:o≠u):a≠b:=by intro e; subst e; rw [h] at h'; exact d (Option.some.inj h')
theorem bO{H:Hp}{a b:Addr}{o:HO}(h:H a=some o)(h':H b=none):a≠b:=by intro e; subst e; rw [h] at h'; cases h'
noncomputable def C4(H:Hp):Sum Key (List Key)->V->Prop
 | .inl k,v=>v=kV k
 | .inr ks,v=>∃ b,v=.ref b/\H b=some (.tup (ks.map kV))
noncomputable def nX(H:Hp)(ks:N1)(a:Addr):Prop:=∃ vs,H a=some (.tup vs)/\Paired (C4 H) ks vs
noncomputable def C5(P:Program)(w:World)(H:Hp)(o:Obj)(kvs:List (KX×V×V)):Prop:=o.ExactDict /\ ∃ es ep,o.data=.dict es ep /\
 ((∃ vs:List (Key×Value),Paired (λ(p:KX×V×V) (q:Key×Value)=>p.1=.inl q.1/\p.2.1=kV q.1/\RelV p.2.2 q.2) kvs vs/\KeysOf (bC P w) es/\Pairs (bC P w) es.toList vs/\(vs.map (·.1)).Nodup) \/
  ∃ xs:List (N1×Addr×Value),Paired (λ(p:KX×V×V) (q:N1×Addr×Value)=>p.1=.inr q.1/\p.2.1=.ref q.2.1/\nX H q.1 q.2.1/\RelV p.2.2 q.2.2) kvs xs/\es.toList=xs.map (entryOfKey (lG P w))/\(xs.map (·.1)).Nodup)
theorem Paired.aBD{α β:Type}{F G:α->β->Prop}:∀ {l₁:List α} {l₂:List β},Paired F l₁ l₂->(∀ a b,F a b->G a b)->Paired G l₁ l₂
 | _,_,.nil,_=>.nil
 | _,_,.cons r t,f=>.cons (f _ _ r) (Paired.aBD t f)
theorem nX.stay{H H':Hp}{ks:N1}{a:Addr}(h:nX H ks a)(ht:∀ b xs,H b=some (.tup xs)->H' b=some (.tup xs)):nX H' ks a:=by
 obtain ⟨vs,e,r⟩:=h;refine ⟨vs,ht _ _ e,Paired.aBD r λk v q=>?_⟩
 cases k with
 | inl k=>exact q
 | inr k=>obtain ⟨b,e,q⟩:=q; exact ⟨b,e,ht _ _ q⟩
theorem C5.stay{P:Program}{w:World}{H H':Hp}{o:Obj}{kvs:List (KX×V×V)}(h:C5 P w H o kvs)(ht:∀ b xs,H b=some (.tup xs)->H' b=some (.tup xs)):C5 P w H' o kvs:=by
 obtain ⟨x,es,ep,e,h⟩:=h;refine ⟨x,es,ep,e,?_⟩;rcases h with h | ⟨xs,r,h1,h2⟩
 .exact .inl h
 .exact .inr ⟨xs,Paired.aBD r λp q z=>⟨z.1,z.2.1,z.2.2.1.stay ht,z.2.2.2⟩,h1,h2⟩
noncomputable def FD(h:Heap)(a:Addr):Prop:=∀ o,h.get? a=some o->o.dict=none
theorem FD.at{h h':Heap}{a:Addr}{o:Obj}(n:FD h a)(e:h.get? a=some o)(e':h'.get? a=some o):FD h' a:=λu q=>by rw [e'] at q; cases q; exact n _ e
theorem FD.new(h:Heap)(its:Array Value){n:Nat}:FD (h.push { cls:=.type "tuple",data:=.seq its n }) h.objs.size:=λu q=>by rw [Heap.get?_push_size h rfl] at q; cases q; rfl
theorem FD.is{h:Heap}{a:Addr}{o:Obj}(e:h.get? a=some o)(d:o.dict=none):FD h a:=λu q=>by rw [e] at q; cases q; exact d
noncomputable abbrev SK(oc:Obj):HO:=.xX oc (.ext λ_=>True)
noncomputable def LA(H:Hp)(q:Str)(ps:Array Value):Prop:=TriplesOk ps.toList /\
 ∀ pos cv,codeAmong pos ps.toList=some cv -> ∃ c oc vs t,cv=.ref c/\H c=some (SK oc)/\oc.data=.fields vs/\vs[1]? = some (.str q t)
theorem LA.stay{H H':Hp}{q:Str}{ps:Array Value}(h:LA H q ps)(hf:∀ b o u,H b=some (.xX o u)->H' b=some (.xX o u)):LA H' q ps :=
 ⟨h.1,λpos cv e=>let ⟨c,oc,vs,t,e1,e2,e3⟩:=h.2 pos cv e; ⟨c,oc,vs,t,e1,hf _ _ _ e2,e3⟩⟩
section
variable(P:Program)(w:World)
noncomputable def dJ(H:Hp)(h:Heap)(a:Addr):HO->Prop
 | .lst xs=>xs.length<=sizeLine /\ ∃ (its:List Value) (n:Nat),Vals xs its/\h.get? a=some { cls:=.type "list",data:=.seq its.toArray n }
 | .tup xs=>xs.length<=sizeLine /\ ∃ its:List Value,Vals xs its/\IsTup h a its.toArray/\FD h a
 | .dK kvs=>kvs.length<=sizeLine/\(a == sysModules)=false /\ ∃ vs,KV kvs vs/\h.DictOf (bC P w) a vs
 | .dT kvs=>kvs.length<=sizeLine/\(a == sysModules)=false /\ ∃ xs:List (List Key×Addr×Value),
   Paired (λ(p:List Key×V) (q:List Key×Addr×Value)=>p.1=q.1/\H q.2.1=some (.tup (p.1.map kV))/\RelV p.2 q.2.2) kvs xs /\
   ∃ o es ep,h.get? a=some o/\o.ExactDict/\o.data=.dict es ep/\es.toList=xs.map (entryOfKey (tupleKind (bC P w)))/\(xs.map (·.1)).Nodup
 | .dX o kvs=>kvs.length<=sizeLine/\(a == sysModules)=false/\h.get? a=some o/\C5 P w H o kvs
 | .set S n=>h.SetOf (intKind P w) a S n
 | .ins C dx fs=>H dx=some (.own a)/\fs.length<=1000/\dx≠a/\h.get? a=some (PySem.W.instObj C dx) /\
   ∃ mA,h.Ns1 dx mA/\(∀ f,nW (fs.lookup f) (mA f))/\PySem.Within mA (fs.map (·.1))
 | .own _=>∃ o,h.get? a=some o
 | .xd fs=>∃ mA,h.Ns1 a mA /\ ∀ f,nW (fs.lookup f) (mA f)
 | .rng lo hi=>∃ t u v,h.get? a=some { cls:=.type "range",data:=.fields #[.int lo t,.int hi u,.int 1 v] }
 | .xX o u=>h.get? a=some o/\dJ H h a u
 | .NL q=>∃ ps:Array Value,h.get? a=some { cls:=.none,data:=.fields ps }/\LA H q ps
 | .met f x=>h.get? a=some (PySem.W.methodObj (.ref f) (.ref x))
 | .ext φ=>φ h/\(∃ o,h.get? a=some o) /\ ∀ h1 h2:Heap,φ h1->(∀ o,h1.get? a=some o->h2.get? a=some o)->φ h2
noncomputable def pT(H:Hp)(h:Heap):Prop:=∀ a o,H a=some o->dJ P w H h a o
end
section
variable{P:Program}{w:World}{H H':Hp}{h h':Heap}{a:Addr}{o:HO}
theorem dJ.lt(x:dJ P w H h a o):a<h.objs.size:=by
 cases o with
 | lst xs=>obtain ⟨_,_,_,_,e⟩:=x; exact Heap.lt_size e
 | tup xs=>obtain ⟨_,_,_,p,_⟩:=x; exact p.lt
 | dK kvs=>obtain ⟨_,_,_,_,o,_,_,e,_⟩:=x; exact Heap.lt_size e
 | dT kvs=>obtain ⟨_,_,_,_,o,_,_,e,_⟩:=x; exact Heap.lt_size e
 | dX ob kvs=>obtain ⟨_,_,e,_⟩:=x; exact Heap.lt_size e
 | set S n=>obtain ⟨o,_,_,_,e,_⟩:=x; exact Heap.lt_size e
 | ins C dx fs=>obtain ⟨_,_,_,e,_⟩:=x; exact Heap.lt_size e
 | own y=>obtain ⟨_,e⟩:=x; exact Heap.lt_size e
 | xd fs=>obtain ⟨_,⟨_,_,_,e,_⟩,_⟩:=x; exact Heap.lt_size e
 | rng lo hi=>obtain ⟨_,_,_,e⟩:=x; exact Heap.lt_size e
 | xX ob u=>obtain ⟨e,_⟩:=x; exact Heap.lt_size e
 | NL q=>obtain ⟨ps,e,_⟩:=x; exact Heap.lt_size e
 | met f y=>exact Heap.lt_size (show h.get? a=some _ from x)
 | ext φ=>obtain ⟨_,⟨_,e⟩,_⟩:=x; exact Heap.lt_size e
theorem Paired.aBE{α β:Type}{F G:α->β->Prop}:∀ {l₁:List α} {l₂:List β},Paired F l₁ l₂->(∀ a b,F a b->G a b)->Paired G l₁ l₂
 | _,_,.nil,_=>.nil
 | _,_,.cons r t,f=>.cons (f _ _ r) (Paired.aBE t f)
theorem dJ.stay(x:dJ P w H h a o)(k:∀ b u,(b=a\/H b=some (.own a))->h.get? b=some u->h'.get? b=some u)
  (ho:∀ b,H b=some (.own a)->H' b=some (.own a)) (ht:∀ b xs,H b=some (.tup xs)->H' b=some (.tup xs)) (hf:∀ b o u,H b=some (.xX o u)->H' b=some (.xX o u):=by exact λ_ _ _ q=>q):dJ P w H' h' a o:=by
 induction o with
 | lst xs=>obtain ⟨z,its,n,r,e⟩:=x; exact ⟨z,its,n,r,k _ _ (.inl rfl) e⟩
 | tup xs=>obtain ⟨z,its,r,⟨ob,e,c⟩,nd⟩:=x; exact ⟨z,its,r,⟨ob,k _ _ (.inl rfl) e,c⟩,nd.at e (k _ _ (.inl rfl) e)⟩
 | dK kvs=>obtain ⟨z,y,vs,r,ob,es,ep,e,c⟩:=x; exact ⟨z,y,vs,r,ob,es,ep,k _ _ (.inl rfl) e,c⟩
 | dT kvs =>
  obtain ⟨z,y,xs,r,ob,es,ep,e,c⟩:=x;exact ⟨z,y,xs,Paired.aBE r λp q z=>⟨z.1,ht _ _ z.2.1,z.2.2⟩,ob,es,ep,k _ _ (.inl rfl) e,c⟩
 | dX ob kvs=>obtain ⟨z,y,e,c⟩:=x; exact ⟨z,y,k _ _ (.inl rfl) e,c.stay ht⟩
 | set S n=>obtain ⟨ob,es,ep,t,e,c⟩:=x; exact ⟨ob,es,ep,t,k _ _ (.inl rfl) e,c⟩
 | ins C dx fs =>
  obtain ⟨d,z,ne,e,mA,⟨od,es,ep,e2,c⟩,r⟩:=x;exact ⟨ho _ d,z,ne,k _ _ (.inl rfl) e,mA,⟨od,es,ep,k _ _ (.inr d) e2,c⟩,r⟩
 | own y=>obtain ⟨ob,e⟩:=x; exact ⟨ob,k _ _ (.inl rfl) e⟩
 | xd fs=>obtain ⟨mA,⟨od,es,ep,e,c⟩,r⟩:=x; exact ⟨mA,⟨od,es,ep,k _ _ (.inl rfl) e,c⟩,r⟩
 | rng lo hi=>obtain ⟨t,u,v,e⟩:=x; exact ⟨t,u,v,k _ _ (.inl rfl) e⟩
 | xX ob u ih=>obtain ⟨e,q⟩:=x; exact ⟨k _ _ (.inl rfl) e,ih q⟩
 | NL q=>obtain ⟨ps,e,r⟩:=x; exact ⟨ps,k a _ (.inl rfl) e,r.stay hf⟩
 | met f y =>
  have e:h.get? a=some (PySem.W.methodObj (.ref f) (.ref y)):=x;show h'.get? a=some (PySem.W.methodObj (.ref f) (.ref y));exact k a _ (.inl rfl) e
 | ext φ=>obtain ⟨p,⟨o,e⟩,st⟩:=x; exact ⟨st _ _ p λo q=>k _ _ (.inl rfl) q,⟨o,k _ _ (.inl rfl) e⟩,st⟩
theorem pT.lt(x:pT P w H h)(e:H a=some o):a<h.objs.size:=(x a o e).lt
theorem pT.fresh(x:pT P w H h)(e:h.objs.size<=a):H a=none:=by
 cases q:H a with
 | none=>rfl
 | some u=>exact absurd (Nat.lt_of_lt_of_le (x.lt q) e) (Nat.lt_irrefl _)
theorem pT.kept(x:pT P w H h)(k:∀ b u,h.get? b=some u->h'.get? b=some u):pT P w H h':=λa o e =>
 (x a o e).stay (λb u _ q=>k b u q) (λ_ q=>q) λ_ _ q=>q
theorem pT.laid(x:pT P w H h)(k:∀ b u,h.get? b=some u->h'.get? b=some u)(hp:h.objs.size<=a)(new:dJ P w (upd H a o) h' a o):pT P w (upd H a o) h':=λb u e=>by
 have hn:=x.fresh hp;by_cases hb:b=a
 .subst hb; rw [aV] at e; cases e; exact new
 .rw [bA hb] at e;exact (x b u e).stay (λc v _ q=>k c v q) (λc q=>by rw [bA (bO q hn)]; exact q) (λc xs q=>by rw [bA (bO q hn)]; exact q) λc o u q=>by rw [bA (bO q hn)]; exact q
end
noncomputable def Rd(H:Hp)(a:Addr)(u:HO):Prop:=H a=some u \/ ∃ o,H a=some (.xX o u)
theorem Rd.ok{P:Program}{w:World}{H:Hp}{h:Heap}{a:Addr}{u:HO}(r:Rd H a u)(x:pT P w H h):dJ P w H h a u:=by
 rcases r with r | ⟨o,r⟩
 .exact x a u r
 .obtain ⟨_,q⟩:=x a _ r;exact q
noncomputable def Mut:Option HO->Prop
 | some (.lst _)=>True
 | some (.dK _)=>True
 | some (.dT _)=>True
 | some (.dX _ _)=>True
 | some (.set _ _)=>True
 | some (.ins _ _ _)=>True
 | some (.ext _)=>True
 | _=>False
section
variable{P:Program}{w:World}{H:Hp}{h h':Heap}{x e:Addr}{o':HO}
theorem pT.write(ok:pT P w H h)(mu:Mut (H x))(he:e=x\/H e=some (.own x))(k:∀ b u,b≠e->h.get? b=some u->h'.get? b=some u)(heo:∃ u,h'.get? e=some u)
  (new:dJ P w (upd H x o') h' x o'):pT P w (upd H x o') h':=λb u q=>by
 have aD7:∀ c y,H c=some (.own y)->c≠x:=λc y r z=>by subst z; rw [r] at mu; exact mu
 have aH5:∀ c xs,H c=some (.tup xs)->c≠x:=λc xs r z=>by subst z; rw [r] at mu; exact mu
 by_cases hb:b=x
 .subst hb; rw [aV] at q; cases q; exact new
 .rw [bA hb] at q;by_cases hbe:b=e
  .have q':H b=some (.own x):=by
    rcases he with z | z
    .exact absurd (hbe.trans z) hb
    .rw [hbe]; exact z
   rw [q] at q'; cases q';obtain ⟨v,hv⟩:=heo;exact ⟨v,by rw [hbe]; exact hv⟩
  .refine (ok b u q).stay (λc v hc r=>k c v ?_ r) (λc r=>by rw [bA (aD7 c b r)]; exact r) (λc xs r=>by rw [bA (aH5 c xs r)]; exact r) λc o u r=>by rw [bA λz=>by subst z; rw [r] at mu; exact mu]; exact r
   rcases hc with rfl | hc
   .exact hbe
   .rintro rfl;rcases he with z | z
    .exact aD7 c b hc z
    .rw [hc] at z; cases z; exact hb rfl
end
structure Un (fs ex:List Addr) (H H':Hp) (h h':Heap):Prop where
 keep:∀ b o,h.get? b=some o->H b=none->b∉fs->b∉ex->h'.get? b=some o
 slot:∀ b o,h.get? b=some o->H b=none->b∈fs->b∉ex -> ∃ sl,h'.get? b=some { o with slots:=sl }
 free:∀ b o,h.get? b=some o->H b=none->b∉ex->H' b=none
 there:∀ b o,h.get? b=some o->b∉ex -> ∃ o',h'.get? b=some o'
 tups:∀ b xs,H b=some (.tup xs)->H' b=some (.tup xs)
 tM:∀ b o u,H b=some (.xX o u)->H' b=some (.xX o u)
 rR:∀ b q,H b=some (.NL q)->H' b=some (.NL q)
section
variable{fs fs' ex ex':List Addr}{H H1 H2:Hp}{h h1 h2 h':Heap}{a x e:Addr}{o:HO}
theorem Un.any(u:Un fs ex H H1 h h1){b:Addr}{ob:Obj}(q:h.get? b=some ob)(n:H b=none)(hx:b∉ex):∃ sl,h1.get? b=some { ob with slots:=sl }:=by
 by_cases hb:b∈fs
 .exact u.slot b ob q n hb hx
 .exact ⟨ob.slots,u.keep b ob q n hb hx⟩
theorem Un.trans(a:Un fs ex H H1 h h1)(b:Un fs ex H1 H2 h1 h2):Un fs ex H H2 h h2 where
 keep:=λc ob q n hc hx=>b.keep c ob (a.keep c ob q n hc hx) (a.free c ob q n hx) hc hx
 slot:=λc ob q n hc hx=>by obtain ⟨sl,e1⟩:=a.slot c ob q n hc hx;obtain ⟨sl',e2⟩:=b.slot c _ e1 (a.free c ob q n hx) hc hx;exact ⟨sl',e2⟩
 free:=λc ob q n hx=>by obtain ⟨o',e1⟩:=a.there c ob q hx;exact b.free c o' e1 (a.free c ob q n hx) hx
 there:=λc ob q hx=>by obtain ⟨o',e1⟩:=a.there c ob q hx;exact b.there c o' e1 hx
 tups:=λc xs q=>b.tups c xs (a.tups c xs q)
 tM:=λc ob xs q=>b.tM c ob xs (a.tM c ob xs q)
 rR:=λc ps q=>b.rR c ps (a.rR c ps q)
theorem Un.kept(k:∀ b u,h.get? b=some u->h'.get? b=some u):Un fs ex H H h h' :=
 ⟨λb ob q _ _ _=>k b ob q,λb ob q _ _ _=>⟨ob.slots,k b ob q⟩,λ_ _ _ n _=>n,λb ob q _=>⟨ob,k b ob q⟩,λ_ _ q=>q,λ_ _ _ q=>q,λ_ ps q=>q⟩
theorem Un.refl:Un fs ex H H h h:=Un.kept λ_ _ q=>q
theorem Un.laid(k:∀ b u,h.get? b=some u->h'.get? b=some u)(hp:h.objs.size<=a)(hn:H a=none):Un fs ex H (upd H a o) h h' where
 keep:=λb u q _ _ _=>k b u q
 slot:=λb u q _ _ _=>⟨u.slots,k b u q⟩
 free:=λb u q n _=>by rw [bA (Nat.ne_of_lt (Nat.lt_of_lt_of_le (Heap.lt_size q) hp))]; exact n
 there:=λb u q _=>⟨u,k b u q⟩
 tups:=λb xs q=>by rw [bA (bO q hn)]; exact q
 tM:=λb u xs q=>by rw [bA (bO q hn)]; exact q
 rR:=λb ps q=>by rw [bA (bO q hn),q]
theorem Un.write(mu:Mut (H x))(he:e=x\/H e=some (.own x))(k:∀ b u,b≠e->h.get? b=some u->h'.get? b=some u)(heo:∃ u,h'.get? e=some u):Un fs ex H (upd H x o) h h':=by
 have hx:∀ b,H b=none->b≠x:=λb n z=>by subst z; rw [n] at mu; exact mu
 have hb:∀ b,H b=none->b≠e:=λb n z=>by
  subst z;rcases he with r | r
  .exact hx b n r
  .rw [n] at r; cases r
 have hm:∀ b u,H b=some u->¬ Mut (some u)->b≠x:=λb u q nm z=>by subst z; rw [q] at mu; exact nm mu
 refine ⟨λb u q n _ _=>k b u (hb b n) q,λb u q n _ _=>⟨u.slots,k b u (hb b n) q⟩,λb u q n _=>by rw [bA (hx b n)]; exact n,λb u q _=>?_,
  λb xs q=>by rw [bA (hm b _ q λz=>z)]; exact q,λb u xs q=>by rw [bA (hm b _ q λz=>z)]; exact q,λb ps q=>by rw [bA (hm b _ q λz=>z),q]⟩
 by_cases hbe:b=e
 .subst hbe; exact heo
 .exact ⟨u,k b u hbe q⟩
end
noncomputable def trk(h:Heap)(H:Hp):List Addr:=(List.range h.objs.size).filter λa=>(H a).isSome
noncomputable def zP(h:Heap)(H:Hp):Heap:=PySem.W.hideAll h (trk h H)
theorem NM(h:Heap)(H:Hp):(zP h H).objs.size=h.objs.size:=PySem.W.hideAll_size _ _
theorem SM{h:Heap}{H:Hp}{b:Addr}{o:Obj}(e:h.get? b=some o)(n:H b=none):(zP h H).get? b=some o :=
 PySem.W.hideAll_get _ e λhm=>by have q:(H b).isSome=true:=(List.mem_filter.mp hm).2;rw [n] at q; simp at q
theorem X7{h:Heap}{H:Hp}{b:Addr}{o:Obj}(e:(zP h H).get? b=some o):h.get? b=some o/\H b=none:=by
 have e':h.get? b=some o:=PySem.W.of_hideAll (trk h H) e;refine ⟨e',?_⟩
 cases q:H b with
 | none=>rfl
 | some x =>
  have hm:b∈trk h H:=List.mem_filter.mpr ⟨List.mem_range.mpr (Heap.lt_size e'),by simp [q]⟩;have z:(zP h H).get? b=none:=PySem.W.hideAll_none (trk h H) hm;rw [z] at e; cases e
end L2
namespace L2
open PySem PySem.Spec PyProof.Rows
structure Mod (K:PySem.W.Frag) (mg:Str->Option Value) (base:Heap):Prop where
 kin:K.In base
 glob:base.Ns mainGlobals mg
 blt:∃ mb,base.Ns builtinsNs mb /\ ∀ x:Str,x ≠ "__name__" -> mb x=bootBuiltins x
 nolimit:base.NoLimit
 bm:∃ bm ob,mg "__builtins__" = some (.ref bm)/\bm≠builtinsNs/\base.get? bm=some ob/\ob.cls=.type "module" /\ ob.dict=some builtinsNs/\ob.data=.plain
noncomputable def SN:List Str:=["going_of", "count_of_chain", "cut_paper", "downsets", "strictest_chains"]
noncomputable def X8(x:Str):Str:=x ++ ".<locals>.<lambda>"
noncomputable def e8(K:PySem.W.Frag):List (Str×Addr×Addr):=SN.filterMap λx=>(PySem.W.tabIn K x).map λp=>(x,p.1,p.2)
noncomputable def X9(K:PySem.W.Frag)(base:Heap)(H:Hp):Prop:=∀ t∈e8 K,PySem.W.CodeHd base t.2.1 t.2.2/\H t.2.2=some (.NL (X8 t.1))
structure Cx where
 prog:Program
 w:World
 K:PySem.W.Frag
 mg:Str->Option Value
 base:Heap
 A:Around
 N:List Str
 s₀:Shared
 H₀:Hp
 env:Env
 outer:List Env
 stack:List Env
 ex:List Addr
 fn:Str->Bool
 calm:Bool
 pn:List (Addr×Obj)
 xe:Value->Shared->Prop
noncomputable def frs(l:List Env):List Addr:=l.filterMap (·.frame)
noncomputable abbrev Cx.fs(X:Cx):List Addr:=frs X.outer
noncomputable def AZ(sc:Scope)(x:Str):Prop:=sc.names.lookup x=some .local\/sc.names.lookup x=some .cell\/sc.names.lookup x=some .free
noncomputable def Loc(sc:Scope)(x:Str):Prop:=sc.names.lookup x=some .local\/sc.names.lookup x=some .cell
noncomputable def Look(env:Env)(h:Heap)(m:Str->Option Value)(x:Str)(u:Value):Prop :=
 (env.kindOf x=some .local/\m x=some u)\/((env.kindOf x=some .cell\/env.kindOf x=some .free) /\ ∃ c,env.cells.lookup x=some c/\h.IsCell c (some u))
structure Cx.Ok (X:Cx):Prop where
 mod:Mod X.K X.mg X.base
 kind:X.env.scope.kind=.function
 glob:X.env.globals=mainGlobals
 blt:X.env.builtins=builtinsNs
 above:X.s₀.heap.objs.size<=X.env.locals
 inj:∀ x y c,X.env.cells.lookup x=some c->X.env.cells.lookup y=some c->x=y
 has:∀ x,(X.env.kindOf x=some .cell\/X.env.kindOf x=some .free) -> ∃ c,X.env.cells.lookup x=some c
 cab:∀ x c,X.fn x=true->X.env.cells.lookup x=some c->X.s₀.heap.objs.size<=c
 hd:X.calm=true->X.A.handled=none
 frames:X.A.frames=some X.stack
 stk:X.stack=X.outer\/(X.stack=X.env::X.outer/\X.env.frame=some X.env.locals)
 exf:∀ b∈X.ex,b≠X.env.locals /\ ∀ x c,X.env.cells.lookup x=some c->c≠b
 bs:∀ b o,X.base.get? b=some o->X.s₀.heap.get? b=some o/\X.H₀ b=none
 YA:X.base.objs.size<=X.s₀.heap.objs.size
 SQ:∀ b o,X.base.get? b=some o->b∉X.ex
 YB:∀ b∈X.ex,b∉X.fs
 xZ:X.s₀.heap.FunFrames X.base X.outer
 frf:∀ b∈X.fs,X.H₀ b=none
 tab:X9 X.K X.base X.H₀
structure Inv (X:Cx) (pins:List (Addr×Obj)) (σ:List (Option V)) (H:Hp) (s:Shared):Prop where
 ok:X.Ok
 os:s.os=X.s₀.os
 bare:AllBare s.gens
 base:Un X.fs X.ex X.H₀ H X.s₀.heap s.heap
 loc:∃ m,s.heap.Ns X.env.locals m /\ ∀ (i:Nat) (x:Str) (v:V),X.N[i]? = some x->σ[i]? = some (some v)->AZ X.env.scope x -> ∃ u,RelV v u/\Look X.env s.heap m x u
 cell:∀ x c,X.env.cells.lookup x=some c -> ∃ v,s.heap.IsCell c v
 free:H X.env.locals=none
 nY:∀ x c,X.env.cells.lookup x=some c->H c=none
 pin:∀ p∈X.pn++pins,s.heap.get? p.1=some p.2/\H p.1=none/\p.1≠X.env.locals/\p.1∉X.fs /\ ∀ v,p.2.data≠.cell v
 hok:pT X.prog X.w H s.heap
 len:σ.length=X.N.length
section
variable{X:Cx}{pins:List (Addr×Obj)}{σ:List (Option V)}{H H':Hp}{s:Shared}{h':Heap}
theorem Cx.Ok.aH7(ok:X.Ok){b:Addr}{o:Obj}(e:X.base.get? b=some o):b∉X.fs:=λhb=>by have:=(ok.xZ.mem hb).1;rw [e] at this; cases this
theorem Inv.bs(I:Inv X pins σ H s):∀ b o,X.base.get? b=some o->s.heap.get? b=some o/\H b=none:=λb o e =>
 ⟨I.base.keep b o (I.ok.bs b o e).1 (I.ok.bs b o e).2 (I.ok.aH7 e) (I.ok.SQ b o e),I.base.free b o (I.ok.bs b o e).1 (I.ok.bs b o e).2 (I.ok.SQ b o e)⟩
theorem Inv.bk(I:Inv X pins σ H s):∀ b o,X.base.get? b=some o->s.heap.get? b=some o:=λb o e=>(I.bs b o e).1
theorem Inv.mod(I:Inv X pins σ H s):Mod X.K X.mg X.base:=I.ok.mod
theorem Inv.tab(I:Inv X pins σ H s):X9 X.K X.base H:=λt ht=>⟨(I.ok.tab t ht).1,I.base.rR _ _ (I.ok.tab t ht).2⟩
theorem Inv.C6(I:Inv X pins σ H s):X.K.In s.heap:=I.ok.mod.kin.keeps I.bk
theorem Inv.fr(I:Inv X pins σ H s):∃ m,Fr X.base X.env.locals s.heap m :=
 let ⟨m,hn,_⟩:=I.loc
 ⟨m,hn,I.bk,Nat.le_trans I.ok.YA I.ok.above⟩
theorem Inv.lt(I:Inv X pins σ H s):X.env.locals<s.heap.objs.size:=let ⟨_,hn,_⟩:=I.loc; hn.lt
theorem Inv.sz(I:Inv X pins σ H s):X.s₀.heap.objs.size<=s.heap.objs.size:=Nat.le_trans I.ok.above (Nat.le_of_lt I.lt)
theorem Inv.aH8(I:Inv X pins σ H s){a:Addr}(h:s.heap.objs.size<=a):a∉X.fs:=λhb=>by obtain ⟨_,o,ho,_⟩:=I.ok.xZ.mem hb;exact absurd (Nat.lt_of_lt_of_le (Heap.lt_size ho) (Nat.le_trans I.sz h)) (Nat.lt_irrefl _)
theorem Inv.cne(I:Inv X pins σ H s):∀ x c,X.env.cells.lookup x=some c->c≠X.env.locals:=λx c e z=>by obtain ⟨v,o,ho,hd⟩:=I.cell x c e;obtain ⟨m,⟨o',es,ep,ho',hd',_⟩,_⟩:=I.loc;rw [z,ho'] at ho; cases ho; rw [hd'] at hd; cases hd
theorem Inv.xZ(I:Inv X pins σ H s):s.heap.FunFrames X.base X.outer:=by
 have all:∀ (l:List Env),(∀ b∈frs l,b∈X.fs)->X.s₀.heap.FunFrames X.base l->s.heap.FunFrames X.base l:=by
  intro l
  induction l with
  | nil=>intro _ _; trivial
  | cons env r ih =>
   intro hs hl;obtain ⟨hk,⟨L,o,hf,hn,ho,hd⟩,hr⟩:=hl;have hL:L∈X.fs:=hs L (by unfold frs; rw [filterMap_cons,hf]; exact mem_cons_self);obtain ⟨sl,e⟩:=I.base.slot L o ho (I.ok.frf L hL) hL λz=>I.ok.YB L z hL;exact ⟨hk,⟨L,_,hf,hn,e,hd⟩,ih (λb hb=>hs b (by unfold frs; rw [filterMap_cons,hf]; exact mem_cons_of_mem _ hb)) hr⟩
 exact all X.outer (λ_ hb=>hb) I.ok.xZ
theorem Inv.stack(I:Inv X pins σ H s):s.heap.FunFrames X.base X.stack:=by
 rcases I.ok.stk with e | ⟨e,hf⟩
 .rw [e]; exact I.xZ
 .rw [e];obtain ⟨m,hn,_⟩:=I.loc;refine .cons (by rw [I.ok.kind]; decide) hf hn ?_ I.xZ;exact Heap.get?_none_of_le (Nat.le_trans I.ok.YA I.ok.above)
theorem Inv.x5(I:Inv X pins σ H s):∀ b∈frs X.stack,b∈X.env.locals::X.fs:=λb hb=>by
 rcases I.ok.stk with e | ⟨e,hf⟩
 .rw [e] at hb; exact mem_cons_of_mem _ hb
 .rw [e] at hb;unfold frs at hb;rw [filterMap_cons,hf] at hb;exact hb
theorem Inv.LB(I:Inv X pins σ H s):∀ b∈frs X.stack,H b=none:=λb hb=>by
 rcases List.mem_cons.mp (I.x5 b hb) with e | hb
 .rw [e]; exact I.free
 .obtain ⟨_,o,ho,_⟩:=I.ok.xZ.mem hb;exact I.base.free b o ho (I.ok.frf b hb) λz=>I.ok.YB b z hb
theorem Inv.step{g':Array GenState}{t':Nat}{d':Drawn}{ch:List Addr}(I:Inv X pins σ H s)
  (hch:∀ b∈ch,(b∈X.ex\/X.s₀.heap.objs.size<=b)/\b≠X.env.locals/\(∀ x c,X.env.cells.lookup x=some c->c≠b) /\ ∀ p∈X.pn++pins,p.1≠b)
  (keep:∀ b o,b≠X.env.locals->b∉X.fs->b∉ch->s.heap.get? b=some o->H b=none->h'.get? b=some o)
  (slot:∀ b o,b≠X.env.locals->b∈X.fs->b∉ch->s.heap.get? b=some o->H b=none -> ∃ sl,h'.get? b=some { o with slots:=sl }) (free:∀ b o,b∉ch->s.heap.get? b=some o->H b=none->H' b=none)
  (there:∀ b o,b∉ch->s.heap.get? b=some o -> ∃ o',h'.get? b=some o')
  (tups:∀ b xs,H b=some (.tup xs)->H' b=some (.tup xs)) (tM:∀ b o u,H b=some (.xX o u)->H' b=some (.xX o u)) (rR:∀ b q,H b=some (.NL q)->H' b=some (.NL q))
  (ns:∀ m,s.heap.Ns X.env.locals m->h'.Ns X.env.locals m) (hok:pT X.prog X.w H' h') (hg:AllBare g') :
  Inv X pins σ H' { s with heap:=h',gens:=g',drawn:=d',toks:=t' }:=by
 have neL:∀ b o,X.s₀.heap.get? b=some o->b≠X.env.locals:=λb o e=>Nat.ne_of_lt (Nat.lt_of_lt_of_le (Heap.lt_size e) I.ok.above);have neC:∀ b o,X.s₀.heap.get? b=some o->b∉X.ex->b∉ch:=λb o e hx hb=>by
  rcases (hch b hb).1 with z | z
  .exact hx z
  .exact absurd (Nat.lt_of_lt_of_le (Heap.lt_size e) z) (Nat.lt_irrefl _)
 have cellK:∀ x c,X.env.cells.lookup x=some c -> ∀ v,s.heap.IsCell c v->h'.IsCell c v:=λx c e v hq0=>by
  obtain ⟨o,ho,hd⟩:=hq0;have nch:c∉ch:=λz=>(hch c z).2.2.1 x c e rfl;by_cases hc:c∈X.fs
  .obtain ⟨sl,q⟩:=slot c o (I.cne x c e) hc nch ho (I.nY x c e);exact ⟨_,q,hd⟩
  .exact ⟨o,keep c o (I.cne x c e) hc nch ho (I.nY x c e),hd⟩
 refine ⟨I.ok,I.os,hg,⟨λb o e n hb hx=>?_,λb o e n hb hx=>?_,λb o e n hx=>?_,λb o e hx=>?_,λb xs e=>tups b xs (I.base.tups b xs e),λb o xs e=>tM b o xs (I.base.tM b o xs e),λb ps e=>rR b ps (I.base.rR b ps e)⟩,?_,λx c e=>?_,?_,λx c e=>?_,λp hp=>?_,hok,I.len⟩
 .exact keep b o (neL b o e) hb (neC b o e hx) (I.base.keep b o e n hb hx) (I.base.free b o e n hx)
 .obtain ⟨sl,e1⟩:=I.base.slot b o e n hb hx;obtain ⟨sl',e2⟩:=slot b _ (neL b o e) hb (neC b o e hx) e1 (I.base.free b o e n hx);exact ⟨sl',e2⟩
 .obtain ⟨o',e1⟩:=I.base.there b o e hx;exact free b o' (neC b o e hx) e1 (I.base.free b o e n hx)
 .obtain ⟨o',e1⟩:=I.base.there b o e hx;exact there b o' (neC b o e hx) e1
 .obtain ⟨m,hn,hl⟩:=I.loc;refine ⟨m,ns m hn,λi x v e1 e2 e3=>?_⟩;obtain ⟨u,r,l⟩:=hl i x v e1 e2 e3;refine ⟨u,r,?_⟩;rcases l with l | ⟨k,c,e,z⟩
  .exact .inl l
  .exact .inr ⟨k,c,e,cellK x c e _ z⟩
 .obtain ⟨v,z⟩:=I.cell x c e;exact ⟨v,cellK x c e v z⟩
 .obtain ⟨m,⟨o,_,_,ho,_⟩,_⟩:=I.loc;exact free _ o (λz=>(hch _ z).2.1 rfl) ho I.free
 .obtain ⟨v,o,ho,hd⟩:=I.cell x c e;exact free c o (λz=>(hch c z).2.2.1 x c e rfl) ho (I.nY x c e)
 .obtain ⟨e,n,ne,nf,d⟩:=I.pin p hp;have nch:p.1∉ch:=λz=>(hch p.1 z).2.2.2 p hp rfl;exact ⟨keep p.1 p.2 ne nf nch e n,free p.1 p.2 nch e n,ne,nf,d⟩
theorem Inv.un{t':Nat}(I:Inv X pins σ H s)(u:Un X.fs [] H H' s.heap h')(hok:pT X.prog X.w H' h'):Inv X pins σ H' { s with heap:=h',toks:=t' }:=by
 obtain ⟨m,⟨o,es,ep,ho,r⟩,_⟩:=id I.loc;obtain ⟨sl,hL⟩:=u.any ho I.free (by simp);exact I.step (g':=s.gens) (d':=s.drawn) (ch:=[]) (λ_ z=>nomatch z) (λb o _ hb _ e n=>u.keep b o e n hb (by simp)) (λb o _ hb _ e n=>u.slot b o e n hb (by simp)) (λb o _ e n=>u.free b o e n (by simp)) (λb o _ e=>u.there b o e (by simp)) u.tups u.tM u.rR (λm' hm=>by obtain ⟨o',es',ep',ho',r'⟩:=hm;rw [ho] at ho'; cases ho';exact ⟨_,es',ep',hL,r'⟩) hok I.bare
theorem Inv.call{g':Array GenState}{t':Nat}{d':Drawn}{ch:List Addr}(I:Inv X pins σ H s)(u:Un (frs X.stack) ch H H' s.heap h')(hok:pT X.prog X.w H' h')(hg:AllBare g')
  (hch:∀ b∈ch,(b∈X.ex\/X.s₀.heap.objs.size<=b)/\b≠X.env.locals/\(∀ x c,X.env.cells.lookup x=some c->c≠b) /\ ∀ p∈X.pn++pins,p.1≠b) :
  Inv X pins σ H' { s with heap:=h',gens:=g',drawn:=d',toks:=t' }:=by
 obtain ⟨m,⟨o,es,ep,ho,r⟩,_⟩:=id I.loc;obtain ⟨sl,hL⟩:=u.any ho I.free λz=>(hch _ z).2.1 rfl;exact I.step (ch:=ch) hch (λb o hL hb hc e n=>u.keep b o e n (λz=>(List.mem_cons.mp (I.x5 b z)).elim hL hb) hc) (λb o _ _ hc e n=>u.any e n hc) (λb o hc e n=>u.free b o e n hc) (λb o hc e=>u.there b o e hc) u.tups u.tM u.rR (λm' hm=>by obtain ⟨o',es',ep',ho',r'⟩:=hm;rw [ho] at ho'; cases ho';exact ⟨_,es',ep',hL,r'⟩) hok hg
theorem Inv.turned{t':Nat}{it:Addr}(I:Inv X pins σ H s)(k:∀ b o,b≠it->s.heap.get? b=some o->h'.get? b=some o)(hn:H it=none)(hL:it≠X.env.locals)
  (h1:it∈X.ex\/X.s₀.heap.objs.size<=it) (h2:∀ x c,X.env.cells.lookup x=some c->c≠it) (h3:∀ p∈X.pn++pins,p.1≠it):Inv X pins σ H { s with heap:=h',toks:=t' }:=by
 have nit:∀ b u,H b=some u->b≠it:=λb u e z=>by rw [z,hn] at e; cases e
 refine I.step (g':=s.gens) (d':=s.drawn) (ch:=[it]) (λb hb=>?_) (λb o _ _ hc e _=>k b o (λz=>hc (by simp [z])) e) (λb o _ _ hc e _=>⟨o.slots,k b o (λz=>hc (by simp [z])) e⟩) (λ_ _ _ _ n=>n)
  (λb o hc e=>⟨o,k b o (λz=>hc (by simp [z])) e⟩) (λ_ _ e=>e) (λ_ _ _ e=>e) (λb ps e=>e) (λm hm=>?_) (λb u e=>?_) I.bare
 .have e:b=it:=by simpa using hb
  subst e;exact ⟨h1,hL,h2,h3⟩
 .obtain ⟨o,es,ep,ho,r⟩:=hm;exact ⟨o,es,ep,k _ o (Ne.symm hL) ho,r⟩
 .refine (I.hok b u e).stay (λc v hc q=>k c v ?_ q) (λ_ q=>q) λ_ _ q=>q;rcases hc with z | z
  .rw [z]; exact nit b u e
  .exact nit c _ z
theorem Inv.tok(I:Inv X pins σ H s)(t:Nat):Inv X pins σ H { s with toks:=t }:=I.un (h':=s.heap) (t':=t) Un.refl I.hok
theorem Inv.kept{t':Nat}(I:Inv X pins σ H s)(k:∀ b u,s.heap.get? b=some u->h'.get? b=some u):Inv X pins σ H { s with heap:=h',toks:=t' }:=I.un (Un.kept k) (I.hok.kept k)
theorem Inv.laid{a:Addr}{o:HO}{t':Nat}(I:Inv X pins σ H s)(k:∀ b u,s.heap.get? b=some u->h'.get? b=some u)(hp:s.heap.objs.size<=a)(new:dJ X.prog X.w (upd H a o) h' a o) :
  Inv X pins σ (upd H a o) { s with heap:=h',toks:=t' }:=I.un (Un.laid k hp (I.hok.fresh hp)) (I.hok.laid k hp new)
theorem Inv.write{x e:Addr}{o:HO}{t':Nat}(I:Inv X pins σ H s)(mu:Mut (H x))(he:e=x\/H e=some (.own x))(k:∀ b u,b≠e->s.heap.get? b=some u->h'.get? b=some u)(heo:∃ u,h'.get? e=some u)
  (new:dJ X.prog X.w (upd H x o) h' x o):Inv X pins σ (upd H x o) { s with heap:=h',toks:=t' }:=I.un (Un.write mu he k heo) (I.hok.write mu he k heo new)
theorem Inv.weak{σ':List (Option V)}(I:Inv X pins σ H s)(hl:σ'.length=σ.length)(w:∀ (i:Nat) v,σ'[i]? = some (some v)->σ[i]? = some (some v)):Inv X pins σ' H s :=
 ⟨I.ok,I.os,I.bare,I.base,let ⟨m,hn,hl'⟩:=I.loc; ⟨m,hn,λi x v e1 e2 e3=>hl' i x v e1 (w i v e2) e3⟩,I.cell,I.free,I.nY,I.pin,I.hok,hl.trans I.len⟩
theorem Inv.LC{LD:List (Addr×Obj)}(I:Inv X pins σ H s)(h:∀ p∈LD,s.heap.get? p.1=some p.2/\H p.1=none/\p.1≠X.env.locals/\p.1∉X.fs /\ ∀ v,p.2.data≠.cell v):Inv X LD σ H s :=
 ⟨I.ok,I.os,I.bare,I.base,I.loc,I.cell,I.free,I.nY,λp hp=>(List.mem_append.mp hp).elim (λz=>I.pin p (mem_append_left _ z)) (h p),I.hok,I.len⟩
theorem FE{N:List Str}(hN:N.Nodup){i j:Nat}{x:Str}(a:N[i]? = some x)(b:N[j]? = some x):i=j:=by obtain ⟨h1,e1⟩:=List.getElem?_eq_some_iff.mp a;obtain ⟨h2,e2⟩:=List.getElem?_eq_some_iff.mp b;exact (List.getElem_inj hN).mp (e1.trans e2.symm)
theorem A1{M:Model}{A:Around}{E:Value->Shared->Prop}{i:Nat}{x:Str}{v:V}{u:Value}{Q:Unit->Shared->Prop}(I:Inv X pins σ H s)(hN:X.N.Nodup)(hi:X.N[i]? = some x)(hx:Loc X.env.scope x)(r:RelV v u)
  (h:∀ s',Inv X pins (σ.set i (some v)) H s'->(∃ a,Heap.SameBut a s.heap s'.heap/\(a=X.env.locals\/X.env.cells.lookup x=some a))->Q () s') (hf:X.fn x=true\/X.env.scope.names.lookup x=some .local:=by first | exact .inl rfl | exact .inr rfl | assumption):wpAny M A (storeName X.env x u) Q E s:=by
 obtain ⟨m,hn,hl⟩:=id I.loc;have hcls:(X.env.scope.kind == .class||(X.env.scope.kind == .module&&X.env.locals != X.env.globals))=false:=by rw [I.ok.kind]; rfl
 have hiσ:i<σ.length:=by rw [I.len]; exact (List.getElem?_eq_some_iff.mp hi).1
 have cne:=I.cne;have tracked:∀ {a:Addr} {h':Heap},(∃ o,s.heap.get? a=some o/\H a=none)->Heap.SameBut a s.heap h'->pT X.prog X.w H h':=λ{a h'} ha hs b ob e=>by
  obtain ⟨_,_,hfree⟩:=ha;refine (I.hok b ob e).stay (λc w' hc q=>(hs.2 c ?_).trans q) (λ_ q=>q) λ_ _ q=>q;rintro rfl;rcases hc with rfl | hc
  .rw [hfree] at e; cases e
  .rw [hfree] at hc; cases hc
 rcases hx with hk | hk
 .refine wpAny_storeName_local hk hn (λh' hn' hs=>?_) hcls;obtain ⟨oL,_,_,hoL,_⟩:=id hn;refine h _ ⟨I.ok,I.os,I.bare,⟨λb o e n hb hx=>?_,λb o e n hb hx=>?_,I.base.free,λb o e hx=>?_,I.base.tups,I.base.tM,I.base.rR⟩,⟨_,hn',λj y v' e1 e2 e3=>?_⟩,λy c e=>?_,I.free,I.nY,λp hp=>?_,tracked ⟨oL,hoL,I.free⟩ hs,by simpa using I.len⟩ ⟨_,hs,.inl rfl⟩
  .exact (hs.2 b (Nat.ne_of_lt (Nat.lt_of_lt_of_le (Heap.lt_size e) I.ok.above))).trans (I.base.keep b o e n hb hx)
  .obtain ⟨sl,e1⟩:=I.base.slot b o e n hb hx;exact ⟨sl,(hs.2 b (Nat.ne_of_lt (Nat.lt_of_lt_of_le (Heap.lt_size e) I.ok.above))).trans e1⟩
  .obtain ⟨o',e1⟩:=I.base.there b o e hx;exact ⟨o',(hs.2 b (Nat.ne_of_lt (Nat.lt_of_lt_of_le (Heap.lt_size e) I.ok.above))).trans e1⟩
  .by_cases hj:j=i
   .subst hj;rw [hi] at e1; cases e1;rw [getElem?_set_self hiσ] at e2;cases e2;exact ⟨u,r,.inl ⟨hk,by simp⟩⟩
   .rw [getElem?_set_ne (Ne.symm hj)] at e2;obtain ⟨u',r',q⟩:=hl j y v' e1 e2 e3;refine ⟨u',r',?_⟩;rcases q with ⟨k,e⟩ | ⟨k,c,e,z⟩
    .refine .inl ⟨k,?_⟩;have:y≠x:=λe=>hj (FE hN e1 (e▸hi));simp [this,e]
    .exact .inr ⟨k,c,e,z.sameBut hs (cne y c e)⟩
  .obtain ⟨w',z⟩:=I.cell y c e;exact ⟨w',z.sameBut hs (cne y c e)⟩
  .obtain ⟨e,n,ne,nf,d⟩:=I.pin p hp;exact ⟨(hs.2 p.1 ne).trans e,n,ne,nf,d⟩
 .have hfn:X.fn x=true:=by
   rcases hf with z | z
   .exact z
   .rw [z] at hk; cases hk
  obtain ⟨c,hc⟩:=I.ok.has x (.inl hk);obtain ⟨w',z⟩:=I.cell x c hc;refine wpAny_storeName_cell I.ok.kind hk hc z (λh' hc' hs=>?_);obtain ⟨oc,hoc,aH9⟩:=id z;refine h { s with heap:=h' } ⟨I.ok,I.os,I.bare,⟨λb o e n hb hx=>?_,λb o e n hb hx=>?_,I.base.free,λb o e hx=>?_,I.base.tups,I.base.tM,I.base.rR⟩,⟨m,hn.sameBut hs (Ne.symm (cne x c hc)),λj y v' e1 e2 e3=>?_⟩,λy c' e=>?_,I.free,I.nY,λp hp=>?_,tracked ⟨oc,hoc,I.nY x c hc⟩ hs,by simpa using I.len⟩ ⟨c,hs,.inr hc⟩
  .exact (hs.2 b (Nat.ne_of_lt (Nat.lt_of_lt_of_le (Heap.lt_size e) (I.ok.cab x c hfn hc)))).trans (I.base.keep b o e n hb hx)
  .obtain ⟨sl,e1⟩:=I.base.slot b o e n hb hx;exact ⟨sl,(hs.2 b (Nat.ne_of_lt (Nat.lt_of_lt_of_le (Heap.lt_size e) (I.ok.cab x c hfn hc)))).trans e1⟩
  .obtain ⟨o',e1⟩:=I.base.there b o e hx;exact ⟨o',(hs.2 b (Nat.ne_of_lt (Nat.lt_of_lt_of_le (Heap.lt_size e) (I.ok.cab x c hfn hc)))).trans e1⟩
  .by_cases hj:j=i
   .subst hj;rw [hi] at e1; cases e1;rw [getElem?_set_self hiσ] at e2;cases e2;exact ⟨u,r,.inr ⟨.inl hk,c,hc,hc'⟩⟩
   .rw [getElem?_set_ne (Ne.symm hj)] at e2;obtain ⟨u',r',q⟩:=hl j y v' e1 e2 e3;refine ⟨u',r',?_⟩;rcases q with q | ⟨k,c',e,z'⟩
    .exact .inl q
    .refine .inr ⟨k,c',e,z'.sameBut hs ?_⟩;rintro rfl;exact hj (FE hN e1 (I.ok.inj _ _ _ e hc▸hi))
  .by_cases hcc:c' = c
   .subst hcc; exact ⟨_,hc'⟩
   .obtain ⟨w2,z2⟩:=I.cell y c' e;exact ⟨w2,z2.sameBut hs hcc⟩
  .obtain ⟨e,n,ne,nf,d⟩:=I.pin p hp;refine ⟨(hs.2 p.1 ?_).trans e,n,ne,nf,d⟩;intro q;rw [q,hoc] at e;have q':oc=p.2:=Option.some.inj e;exact d w' (by rw [<- q']; exact aH9)
theorem FF{M:Model}{A:Around}{E:Value->Shared->Prop}{i:Nat}{x:Str}{v:V}{u:Value}{Q:Unit->Shared->Prop}(I:Inv X pins σ H s)(hN:X.N.Nodup)(hi:X.N[i]? = some x)(hx:Loc X.env.scope x)(r:RelV v u)
  (h:∀ s',Inv X pins (σ.set i (some v)) H s'->Q () s') (hf:X.fn x=true\/X.env.scope.names.lookup x=some .local:=by first | exact .inl rfl | exact .inr rfl | assumption):wpAny M A (storeName X.env x u) Q E s :=
 A1 I hN hi hx r (λs' I' _=>h s' I') hf
theorem Inv.call'{s':Shared}{ch:List Addr}(I:Inv X pins σ H s)(ho:s'.os=s.os)(u:Un (frs X.stack) ch H H' s.heap s'.heap)(hok:pT X.prog X.w H' s'.heap)(hg:AllBare s'.gens)
  (hch:∀ b∈ch,(b∈X.ex\/X.s₀.heap.objs.size<=b)/\b≠X.env.locals/\(∀ x c,X.env.cells.lookup x=some c->c≠b) /\ ∀ p∈X.pn++pins,p.1≠b):Inv X pins σ H' s':=by
 obtain ⟨h',g',d',t',o'⟩:=s';have e:o' = s.os:=ho;subst e;exact I.call (g':=g') (t':=t') (d':=d') u hok hg hch
end
noncomputable abbrev XK:=Value->Option Addr->Hp->Prop
noncomputable abbrev St:=List (Option V)
noncomputable abbrev VK:=V->Hp->Prop
noncomputable abbrev TE:=St->Hp->VK->Prop
noncomputable abbrev TT:=St->Hp->(Bool->Hp->Prop)->Prop
noncomputable abbrev TA:=St->Hp->(List V->Hp->Prop)->Prop
structure Ends where
 nx:St->Hp->Prop
 rt:VK
 bk:St->Hp->Prop:=λ_ _=>False
 ct:St->Hp->Prop:=λ_ _=>False
noncomputable abbrev TS:=Ends->St->Hp->Prop
noncomputable def EP(X:Cx)(pins:List (Addr×Obj))(σ:St)(Q:VK)(u:Value)(s':Shared):Prop:=∃ v H',Inv X pins σ H' s'/\RelV v u/\Q v H'
noncomputable def TP(X:Cx)(pins:List (Addr×Obj))(σ:St)(Q:Bool->Hp->Prop)(b:Bool)(s':Shared):Prop:=∃ H',Inv X pins σ H' s'/\Q b H'
noncomputable def AP(X:Cx)(pins:List (Addr×Obj))(σ:St)(Q:List V->Hp->Prop)(us:List Value)(s':Shared):Prop:=∃ vs H',Inv X pins σ H' s'/\Vals vs us/\Q vs H'
noncomputable def SP(X:Cx)(pins:List (Addr×Obj))(D:Ends)(f:Flow)(s':Shared):Prop :=
 match f with
 | .next=>∃ σ' H',Inv X pins σ' H' s'/\D.nx σ' H'
 | .brk=>∃ σ' H',Inv X pins σ' H' s'/\D.bk σ' H'
 | .cont=>∃ σ' H',Inv X pins σ' H' s'/\D.ct σ' H'
 | .ret u=>∃ v σ' H',Inv X pins σ' H' s'/\RelV v u/\D.rt v H'
noncomputable def PE(X:Cx)(e:Expr)(t:TE):Prop :=
 ∀ (pins:List (Addr×Obj)) (s:Shared) (σ:St) (H:Hp) (Q:VK),Inv X pins σ H s->t σ H Q->wpAny (model X.prog X.w) X.A (eval e X.env) (EP X pins σ Q) X.xe s
noncomputable def PT(X:Cx)(e:Expr)(t:TT):Prop :=
 ∀ (pins:List (Addr×Obj)) (s:Shared) (σ:St) (H:Hp) (Q:Bool->Hp->Prop),Inv X pins σ H s->t σ H Q->wpAny (model X.prog X.w) X.A (isTrue e X.env (eval e X.env)) (TP X pins σ Q) X.xe s
noncomputable def PW(X:Cx)(e:Expr)(t:TT):Prop :=
 ∀ (whole:Sem Value) (pins:List (Addr×Obj)) (s:Shared) (σ:St) (H:Hp) (Q:Bool->Hp->Prop),Inv X pins σ H s->t σ H Q->wpAny (model X.prog X.w) X.A (isTrue e X.env whole) (TP X pins σ Q) X.xe s
theorem PW.pt{X:Cx}{e:Expr}{t:TT}(h:PW X e t):PT X e t:=h _
noncomputable def PA(X:Cx)(es:List Expr)(t:TA):Prop :=
 ∀ (pos:Pos) (pins:List (Addr×Obj)) (s:Shared) (σ:St) (H:Hp) (Q:List V->Hp->Prop),Inv X pins σ H s->t σ H Q->wpAny (model X.prog X.w) X.A (spliced (backTo pos (starEach es X.env))) (AP X pins σ Q) X.xe s
noncomputable def PS(X:Cx)(st:Stmt)(t:TS):Prop :=
 ∀ (pins:List (Addr×Obj)) (s:Shared) (σ:St) (H:Hp) (D:Ends),Inv X pins σ H s->t D σ H->wpAny (model X.prog X.w) X.A (exec st X.env) (SP X pins D) X.xe s
noncomputable def A2(X:Cx)(st:List Stmt)(t:TS):Prop :=
 ∀ (pins:List (Addr×Obj)) (s:Shared) (σ:St) (H:Hp) (D:Ends),Inv X pins σ H s->t D σ H->wpAny (model X.prog X.w) X.A (execs st X.env) (SP X pins D) X.xe s
theorem eS{α:Type}{t:Sem α}{Q Q':α->Shared->Prop}{M:Model}{A:Around}{E:Value->Shared->Prop}{s:Shared}(h:wpAny M A t Q E s)(hQ:∀ a s,Q a s->Q' a s):wpAny M A t Q' E s:=wpAny_mono h hQ λ_ _ x=>x
end L2
namespace L2
open PySem PySem.Spec PyProof.Rows
section
variable{X:Cx}
noncomputable def SR(i:Nat):TE:=λσ H Q=>∃ v,σ[i]? = some (some v)/\Q v H
noncomputable def tC(v:V):TE:=λ_ H Q=>Q v H
theorem nZ{i:Nat}{x:Str}{pos:Pos}(hN:X.N[i]? = some x)(hv:AZ X.env.scope x)(hd:(x == ("__debug__" : Str))=false:=by decide)(hcd:(x == ("__classdict__" : Str))=false:=by decide):PE X (.Name x pos) (SR i):=by
 intro pins s σ H Q I h;obtain ⟨v,e,h⟩:=h;obtain ⟨m,hn,hl⟩:=I.loc;obtain ⟨u,r,l⟩:=hl i x v hN e hv;have fin:EP X pins σ Q u s:=⟨v,H,I,r,h⟩;rcases l with ⟨hk,hm⟩ | ⟨hk,c,hc,hcell⟩
 .exact wpAny_Name (wpAny_loadName_local I.ok.kind hk hn hm fin) hd
 .rcases hk with hk | hk
  .exact wpAny_Name (wpAny_loadName_cell I.ok.kind hk hc hcell fin) hd
  .exact wpAny_Name (wpAny_loadName_free I.ok.kind hk hc hcell fin hcd) hd
theorem aBG{i j pos}:PE X (.Constant (.int i) j pos) (tC (.int i)):=λ_ _ _ H _ I h=>wpAny_Constant_int ⟨.int i,H,I.tok _,⟨_,rfl⟩,h⟩
theorem aD9{b j pos}:PE X (.Constant (.bool b) j pos) (tC (.bl b)):=λ_ _ _ H _ I h=>Constant_bool ⟨.bl b,H,I,rfl,h⟩
theorem aBH{j pos}:PE X (.Constant .none j pos) (tC .non):=λ_ _ _ H _ I h=>Constant_none ⟨.non,H,I,rfl,h⟩
noncomputable def Gl(X:Cx)(x:Str):Prop:=X.env.kindOf x=some .globalImplicit
theorem YC{E:Value->Shared->Prop}{pins:List (Addr×Obj)}{s:Shared}{σ:St}{H:Hp}{x:Str}{u:Value}{pos:Pos}{Q:Value->Shared->Prop}(I:Inv X pins σ H s)(hg:Gl X x)(hm:X.mg x=some u)(h:Q u s)
  (hd:(x == ("__debug__" : Str))=false:=by decide):wpAny (model X.prog X.w) X.A (eval (.Name x pos) X.env) Q E s :=
 Calls.Name_function_global I.ok.kind hg (Calls.loadGlobal_global (by rw [I.ok.glob]; exact I.mod.glob.keeps I.bk) hm h) hd
theorem qH{E:Value->Shared->Prop}{pins:List (Addr×Obj)}{s:Shared}{σ:St}{H:Hp}{x:Str}{u:Value}{pos:Pos}{Q:Value->Shared->Prop}(I:Inv X pins σ H s)(hg:Gl X x)(hm:X.mg x=none)(hv:bootBuiltins x=some u)(h:Q u s)
  (hn:x ≠ "__name__" := by decide) (hd:(x == ("__debug__" : Str))=false:=by decide):wpAny (model X.prog X.w) X.A (eval (.Name x pos) X.env) Q E s:=by
 obtain ⟨mb,h1,h2⟩:=I.mod.blt;exact Calls.Name_function_global I.ok.kind hg (Calls.loadGlobal_builtin (by rw [I.ok.glob]; exact I.mod.glob.keeps I.bk) hm (by rw [I.ok.blt]; exact h1.keeps I.bk) ((h2 x hn).trans hv) h) hd
theorem YD{x:Str}{v:V}{u:Value}{pos:Pos}(hg:Gl X x)(hm:X.mg x=none)(hv:bootBuiltins x=some u)(r:RelV v u)(hn:x ≠ "__name__" := by decide)(hd:(x == ("__debug__" : Str))=false:=by decide):PE X (.Name x pos) (tC v) :=
 λ_ _ _ H _ I h=>qH I hg hm hv ⟨v,H,I,r,h⟩ hn hd
variable{a b:Expr}{ta tb:TE}{pos:Pos}
noncomputable def PC(X:Cx)(op:CmpOp)(a b:Expr)(t:TE):Prop :=
 ∀ (pins:List (Addr×Obj)) (s:Shared) (σ:St) (H:Hp) (Q:VK),Inv X pins σ H s->t σ H Q ->
  wpAny (model X.prog X.w) X.A (eval a X.env) (λv s₁=>wpAny (model X.prog X.w) X.A (eval b X.env) (λu s₂=>wpAny (model X.prog X.w) X.A (compareOp op v u) (EP X pins σ Q) X.xe s₂) X.xe s₁) X.xe s
noncomputable def tB(t:TE):TT:=λσ H Q=>t σ H λx H1=>∃ c,x=.bl c/\Q c H1
theorem aBI{op:CmpOp}{t:TE}(h:PC X op a b t)(h1:behindInMarks op b=false:=by first | exact aDa _ (by decide) (by decide) | rfl):PT X (.Compare a [op] [b] pos) (tB t):=by intro pins s σ H Q I hw;refine wpAny_isTrue_Compare1 (eS (h pins s σ H _ I hw) λv s1 h1=>eS h1 λu s2 h2=>eS h2 λc s3 ⟨x,H1,I1,r1,q1⟩=>?_) h1;obtain ⟨d,rfl,q⟩:=q1;cases r1;exact wpAny_truthy_bool ⟨H1,I1,q⟩
variable{tA tB':TT}{rest:List Expr}
noncomputable def uY(t u:TT):TT:=λσ H Q=>t σ H λc H1=>if c=true then u σ H1 Q else Q false H1
noncomputable def zF(t u:TT):TT:=λσ H Q=>t σ H λc H1=>if c=true then Q true H1 else u σ H1 Q
noncomputable def iZ(t:TT):TT:=λσ H Q=>t σ H λc H1=>Q (!c) H1
theorem YE(ha:PT X a tA):PW X (.BoolOp .And [a] pos) tA:=by
 intro wh pins s σ H Q I h;refine isTrue_and (eS (ha pins s σ H Q I h) λc s1 e=>?_)
 cases c with
 | true=>exact isTrue_and_nil e
 | false=>exact e
theorem aBJ(ha:PT X a tA):PW X (.BoolOp .Or [a] pos) tA:=by
 intro wh pins s σ H Q I h;refine isTrue_or (eS (ha pins s σ H Q I h) λc s1 e=>?_)
 cases c with
 | false=>exact isTrue_or_nil e
 | true=>exact e
theorem aBK(ha:PT X a tA)(hb:PW X (.BoolOp .And (b::rest) pos) tB'):PW X (.BoolOp .And (a::b::rest) pos) (uY tA tB'):=by
 intro wh pins s σ H Q I h;refine isTrue_and (eS (ha pins s σ H _ I h) λc s1 ⟨H1,I1,q1⟩=>?_)
 cases c with
 | true=>exact hb wh pins s1 σ H1 Q I1 q1
 | false=>exact ⟨H1,I1,q1⟩
theorem aDb(ha:PT X a tA)(hb:PW X (.BoolOp .Or (b::rest) pos) tB'):PW X (.BoolOp .Or (a::b::rest) pos) (zF tA tB'):=by
 intro wh pins s σ H Q I h;refine isTrue_or (eS (ha pins s σ H _ I h) λc s1 ⟨H1,I1,q1⟩=>?_)
 cases c with
 | true=>exact ⟨H1,I1,q1⟩
 | false=>exact hb wh pins s1 σ H1 Q I1 q1
theorem aBL(ha:PT X a tA):PT X (.UnaryOp .Not a pos) (iZ tA):=by intro pins s σ H Q I h;exact isTrue_not (ha pins s σ H (λc H1=>Q (!c) H1) I h)
noncomputable def aDc(ta tb:TE):TE:=λσ H Q=>ta σ H λx H1=>∃ c,x=.bl c/\if c=true then tb σ H1 Q else Q (.bl false) H1
noncomputable def aHa(ta tb:TE):TE:=λσ H Q=>ta σ H λx H1=>∃ c,x=.bl c/\if c=true then Q (.bl true) H1 else tb σ H1 Q
noncomputable def aDd(ta:TE):TE:=λσ H Q=>ta σ H λx H1=>∃ c,x=.bl c/\Q (.bl (!c)) H1
theorem aBM{op}{t:TE}(h:PE X a t):PE X (.BoolOp op [a] pos) t:=λpins s σ H Q I hw=>BoolOp_one (h pins s σ H Q I hw)
theorem aBN(ha:PE X a ta)(hb:PE X (.BoolOp .And (b::rest) pos) tb):PE X (.BoolOp .And (a::b::rest) pos) (aDc ta tb):=by
 intro pins s σ H Q I h;refine BoolOp_and (eS (ha pins s σ H _ I h) λv s1 ⟨x,H1,I1,r1,q1⟩=>?_);obtain ⟨c,rfl,q1⟩:=q1;cases r1;refine wpAny_truthy_bool ?_
 cases c with
 | true=>exact hb pins s1 σ H1 Q I1 q1
 | false=>exact ⟨.bl false,H1,I1,rfl,q1⟩
theorem aDe(ha:PE X a ta)(hb:PE X (.BoolOp .Or (b::rest) pos) tb):PE X (.BoolOp .Or (a::b::rest) pos) (aHa ta tb):=by
 intro pins s σ H Q I h;refine BoolOp_or (eS (ha pins s σ H _ I h) λv s1 ⟨x,H1,I1,r1,q1⟩=>?_);obtain ⟨c,rfl,q1⟩:=q1;cases r1;refine wpAny_truthy_bool ?_
 cases c with
 | false=>exact hb pins s1 σ H1 Q I1 q1
 | true=>exact ⟨.bl true,H1,I1,rfl,q1⟩
theorem aBO(ha:PE X a ta):PE X (.UnaryOp .Not a pos) (aDd ta):=by intro pins s σ H Q I h;refine UnaryOp_ (eS (ha pins s σ H _ I h) λv s1 ⟨x,H1,I1,r1,q1⟩=>?_);obtain ⟨c,rfl,q1⟩:=q1;cases r1;exact not_of (wpAny_truthy_bool ⟨.bl (!c),H1,I1,rfl,q1⟩)
noncomputable def tIf(t:TT)(ta tb:TE):TE:=λσ H Q=>t σ H λc H1=>if c=true then ta σ H1 Q else tb σ H1 Q
theorem SS{c:Expr}(hc:PT X c tA)(ha:PE X a ta)(hb:PE X b tb):PE X (.IfExp c a b pos) (tIf tA ta tb):=by
 intro pins s σ H Q I h;refine wpAny_IfExp (eS (hc pins s σ H _ I h) λd s1 ⟨H1,I1,q1⟩=>?_)
 cases d with
 | true=>exact ha pins s1 σ H1 Q I1 q1
 | false=>exact hb pins s1 σ H1 Q I1 q1
end
end L2
namespace L2
open PySem PySem.Spec PyProof.Rows
noncomputable def eO(K:PySem.W.Frag)(H:Hp)(a:Addr)(xs:List V):Prop :=
 Rd H a (.lst xs) \/
  ∃ (o:Obj) (its:Array Value) (n:Nat),K.lookup a=some o/\o.cls=.type "list" /\ o.dict=none/\o.data=.seq its n/\its.size<=sizeLine/\Vals xs its.toList
noncomputable def gR(K:PySem.W.Frag)(H:Hp)(a:Addr)(xs:List V):Prop :=
 Rd H a (.tup xs) \/
  ∃ (o:Obj) (its:Array Value) (n:Nat),K.lookup a=some o/\o.cls=.type "tuple" /\ o.data=.seq its n/\its.size<=sizeLine/\Vals xs its.toList
noncomputable def aHb:Value->Option V
 | .none=>some .non
 | .bool b=>some (.bl b)
 | .int i _=>some (.int i)
 | .str x _=>some (.str x)
 | .bytes b _=>some (.NK b)
 | .float b _=>some (.flt b)
 | .ref a=>some (.ref a)
 | .type n=>some (.ty n)
 | _=>none
theorem RelV.abs{x:V}{u:Value}(r:RelV x u):aHb u=some x:=by
 cases x with
 | non=>cases r; rfl
 | bl _=>cases r; rfl
 | int _=>obtain ⟨t,rfl⟩:=r; rfl
 | str _=>obtain ⟨t,rfl⟩:=r; rfl
 | NK _=>obtain ⟨t,rfl⟩:=r; rfl
 | flt _=>obtain ⟨t,rfl⟩:=r; rfl
 | ref _=>cases r; rfl
 | ty _=>cases r; rfl
theorem RelV.inj{x y:V}{u:Value}(r:RelV x u)(q:RelV y u):x=y:=Option.some.inj (r.abs.symm.trans q.abs)
theorem Vals.inj:∀ {xs ys:List V} {us:List Value},Vals xs us->Vals ys us->xs=ys
 | _,_,_,.nil,.nil=>rfl
 | _,_,_,.cons r t,.cons r' t'=>by rw [r.inj r',Vals.inj t t']
section
variable{X:Cx}{pins:List (Addr×Obj)}{σ:St}{H:Hp}{s:Shared}{a:Addr}{xs ys:List V}
theorem eO.of{K:PySem.W.Frag}(h:H a=some (.lst xs)):eO K H a xs:=.inl (.inl h)
theorem gR.of{K:PySem.W.Frag}(h:H a=some (.tup xs)):gR K H a xs:=.inl (.inl h)
theorem Inv.list(I:Inv X pins σ H s)(h:eO X.K H a xs):∃ its:List Value,Vals xs its/\PlainL s.heap a its.toArray/\xs.length<=sizeLine:=by
 rcases h with h | ⟨o,its,n,hk,hc,hd,hs,hz,r⟩
 .obtain ⟨z,its,n,r,e⟩:=h.ok I.hok;exact ⟨its,r,⟨_,n,e,rfl,rfl,rfl⟩,z⟩
 .refine ⟨its.toList,r,⟨o,n,I.C6 a o hk,hc,hd,by simpa using hs⟩,?_⟩;have e:=r.length;simp only [Array.length_toList] at e;omega
theorem Inv.tuple(I:Inv X pins σ H s)(h:gR X.K H a xs):∃ its:List Value,Vals xs its/\IsTup s.heap a its.toArray/\xs.length<=sizeLine:=by
 rcases h with h | ⟨o,its,n,hk,hc,hs,hz,r⟩
 .obtain ⟨z,its,r,p,_⟩:=h.ok I.hok;exact ⟨its,r,p,z⟩
 .refine ⟨its.toList,r,⟨o,I.C6 a o hk,hc,n,by simpa using hs⟩,?_⟩;have e:=r.length;simp only [Array.length_toList] at e;omega
theorem Inv.fO(I:Inv X pins σ H s)(h:eO X.K H a xs)(h':eO X.K H a ys):xs=ys:=by
 obtain ⟨its,r,⟨o,n,e,_,_,d⟩,_⟩:=I.list h;obtain ⟨its',r',⟨o',n',e',_,_,d'⟩,_⟩:=I.list h';rw [e] at e'; cases e';rw [d] at d';injection d' with d1 _;have:its=its':=by simpa using congrArg Array.toList d1
 subst this;exact r.inj r'
theorem Inv.oX(I:Inv X pins σ H s)(h:gR X.K H a xs)(h':gR X.K H a ys):xs=ys:=by
 obtain ⟨its,r,⟨o,e,_,n,d⟩,_⟩:=I.tuple h;obtain ⟨its',r',⟨o',e',_,n',d'⟩,_⟩:=I.tuple h';rw [e] at e'; cases e';rw [d] at d';injection d' with d1 _;have:its=its':=by simpa using congrArg Array.toList d1
 subst this;exact r.inj r'
end
noncomputable abbrev Cx.wish(X:Cx)(E:Value->Shared->Prop):Cx:={ X with xe:=E }
noncomputable abbrev Cx.nox(X:Cx):Cx:=X.wish λ_ _=>False
theorem Cx.Ok.wish{X:Cx}(ok:X.Ok)(E:Value->Shared->Prop):(X.wish E).Ok :=
 ⟨ok.mod,ok.kind,ok.glob,ok.blt,ok.above,ok.inj,ok.has,ok.cab,ok.hd,ok.frames,ok.stk,ok.exf,ok.bs,ok.YA,ok.SQ,ok.YB,ok.xZ,ok.frf,ok.tab⟩
theorem Cx.Ok.n0{X:Cx}{E:Value->Shared->Prop}(ok:(X.wish E).Ok):X.Ok :=
 ⟨ok.mod,ok.kind,ok.glob,ok.blt,ok.above,ok.inj,ok.has,ok.cab,ok.hd,ok.frames,ok.stk,ok.exf,ok.bs,ok.YA,ok.SQ,ok.YB,ok.xZ,ok.frf,ok.tab⟩
section
variable{X:Cx}{pins:List (Addr×Obj)}{σ:St}{H:Hp}{s:Shared}{E:Value->Shared->Prop}
theorem Inv.wish(I:Inv X pins σ H s)(E:Value->Shared->Prop):Inv (X.wish E) pins σ H s:=⟨I.ok.wish E,I.os,I.bare,I.base,I.loc,I.cell,I.free,I.nY,I.pin,I.hok,I.len⟩
theorem Inv.n0(I:Inv (X.wish E) pins σ H s):Inv X pins σ H s:=⟨I.ok.n0,I.os,I.bare,I.base,I.loc,I.cell,I.free,I.nY,I.pin,I.hok,I.len⟩
theorem SP.n0{D:Ends}{f:Flow}{s':Shared}(h:SP (X.wish E) pins D f s'):SP X pins D f s':=by
 cases f with
 | next=>obtain ⟨σ',H',I,q⟩:=h; exact ⟨σ',H',I.n0,q⟩
 | brk=>obtain ⟨σ',H',I,q⟩:=h; exact ⟨σ',H',I.n0,q⟩
 | cont=>obtain ⟨σ',H',I,q⟩:=h; exact ⟨σ',H',I.n0,q⟩
 | ret u=>obtain ⟨v,σ',H',I,r,q⟩:=h; exact ⟨v,σ',H',I.n0,r,q⟩
theorem A2.nox{st:List Stmt}{t:TS}(h:A2 X.nox st t):A2 X st t:=λpins s σ H D I hw =>
 wpAny_mono (h pins s σ H D (I.wish _) hw) (λ_ _ q=>q.n0) λ_ _ z=>False.elim z
end
section
variable{X:Cx}{st:Stmt}{rest:List Stmt}{t u:TS}{e:Expr}{te:TE}{pos:Pos}
noncomputable def aDf:TS:=λD σ H=>D.nx σ H
noncomputable def SU(t u:TS):TS:=λD σ H=>t { D with nx:=u D } σ H
theorem YF:A2 X [] aDf:=λ_ _ σ H _ I h=>wpAny_execs_nil ⟨σ,H,I,h⟩
theorem x6(h1:PS X st t)(h2:A2 X rest u):A2 X (st::rest) (SU t u):=by
 intro pins s σ H D I h;refine wpAny_execs_cons (eS (h1 pins s σ H { D with nx:=u D } I h) λf s1 q=>?_)
 cases f with
 | next =>
  obtain ⟨σ',H',I',q⟩:=q;exact h2 pins s1 σ' H' D I' q
 | ret v=>exact q
 | brk=>exact q
 | cont=>exact q
theorem LF(h1:PS X st t):A2 X [st] t:=by
 intro pins s σ H D I h;refine wpAny_execs_cons (eS (h1 pins s σ H D I h) λf s1 q=>?_)
 cases f with
 | next=>exact wpAny_execs_nil q
 | ret v=>exact q
 | brk=>exact q
 | cont=>exact q
theorem Inv.quiet{pins:List (Addr×Obj)}{σ:St}{H:Hp}{s:Shared}(I:Inv X pins σ H s):interactive X.env=false:=by simp [interactive,I.ok.kind]
noncomputable def aDg(te:TE):TS:=λD σ H=>te σ H λ_ H1=>D.nx σ H1
theorem LG(he:PE X e te)(hs:swapsWith e none pos.line X.env=pure false:=by rfl):PS X (.Expr e pos) (aDg te):=by intro pins s σ H D I h;exact wpAny_Expr_any (eS (he pins s σ H _ I h) λv s1 ⟨x,H1,I1,r1,q1⟩=>⟨σ,H1,I1,q1⟩) I.quiet hs
noncomputable def aDh(te:TE):TS:=λD σ H=>te σ H D.rt
theorem SW(he:PE X e te):PS X (.Return (some e) pos) (aDh te):=by intro pins s σ H D I h;exact wpAny_Return_some (eS (he pins s σ H _ I h) λv s1 ⟨x,H1,I1,r1,q1⟩=>⟨x,σ,H1,I1,r1,q1⟩)
noncomputable def aHc(c:TT)(t u:TS):TS:=λD σ H=>c σ H λb H1=>if b=true then t D σ H1 else u D σ H1
theorem aDi{c:Expr}{a b:List Stmt}{tc:TT}(hc:PT X c tc)(ha:A2 X a t)(hb:A2 X b u):PS X (.If c a b pos) (aHc tc t u):=by
 intro pins s σ H D I h;refine wpAny_If (eS (hc pins s σ H _ I h) λd s1 ⟨H1,I1,q1⟩=>?_)
 cases d with
 | true=>exact ha pins s1 σ H1 D I1 q1
 | false=>exact hb pins s1 σ H1 D I1 q1
end
noncomputable abbrev TG:=V->St->Hp->(St->Hp->Prop)->Prop
noncomputable abbrev TGs:=List V->St->Hp->(St->Hp->Prop)->Prop
noncomputable def PG(X:Cx)(target:Expr)(t:TG):Prop :=
 ∀ (pins:List (Addr×Obj)) (s:Shared) (σ:St) (H:Hp) (v:V) (u:Value) (Q:St->Hp->Prop),Inv X pins σ H s->RelV v u->t v σ H Q ->
  wpAny (model X.prog X.w) X.A (assign target X.env u) (λ_ s'=>∃ σ' H',Inv X pins σ' H' s'/\Q σ' H') X.xe s
noncomputable def PGs(X:Cx)(ts:List Expr)(t:TGs):Prop :=
 ∀ (pins:List (Addr×Obj)) (s:Shared) (σ:St) (H:Hp) (vs:List V) (us:List Value) (Q:St->Hp->Prop),Inv X pins σ H s->Vals vs us->t vs σ H Q ->
  wpAny (model X.prog X.w) X.A (assignInOrder ((assignEach ts X.env).map (·.2)) us) (λ_ s'=>∃ σ' H',Inv X pins σ' H' s'/\Q σ' H') X.xe s
noncomputable abbrev aBR:=V->V->V->Hp->(Hp->Prop)->Prop
noncomputable def aDj(X:Cx)(t:aBR):Prop :=
 ∀ (pins:List (Addr×Obj)) (s:Shared) (σ:St) (H:Hp) (o i v:V) (ov iv u:Value) (Q:Hp->Prop),Inv X pins σ H s->RelV o ov->RelV i iv->RelV v u->t o i v H Q ->
  wpAny (model X.prog X.w) X.A (setItem ov iv u) (λ_ s'=>∃ H',Inv X pins σ H' s'/\Q H') X.xe s
section
variable{X:Cx}{pos:Pos}
noncomputable def SX(i:Nat):TG:=λv σ H Q=>Q (σ.set i (some v)) H
theorem oY{i:Nat}{x:Str}(hN:X.N.Nodup)(hi:X.N[i]? = some x)(hx:Loc X.env.scope x)(hf:X.fn x=true\/X.env.scope.names.lookup x=some .local:=by first | exact .inl rfl | exact .inr rfl | assumption):PG X (.Name x pos) (SX i):=by intro pins s σ H v u Q I r h;exact wpAny_assign_Name (FF I hN hi hx r (λs' I'=>⟨_,H,I',h⟩) hf)
noncomputable def aHd:TGs:=λvs σ H Q=>vs=[]/\Q σ H
noncomputable def aDk(t:TG)(u:TGs):TGs:=λvs σ H Q=>∃ v r,vs=v::r/\t v σ H λσ' H'=>u r σ' H' Q
theorem LH:PGs X [] aHd:=by intro pins s σ H vs us Q I r h;obtain ⟨e,h⟩:=h;subst e;cases r;exact assignInOrder_nil ⟨σ,H,I,h⟩
theorem rS{e:Expr}{es:List Expr}{t:TG}{u:TGs}(h1:PG X e t)(h2:PGs X es u)
  (hs:(assignEach (e::es) X.env).map (·.2)=assign e X.env::(assignEach es X.env).map (·.2):=by rfl):PGs X (e::es) (aDk t u):=by
 intro pins s σ H vs us Q I r h;obtain ⟨v,vr,e1,h⟩:=h;subst e1
 cases r with
 | cons r rr =>
  rw [hs];refine assignInOrder_cons (eS (h1 pins s σ H _ _ _ I r h) λ_ s1 ⟨σ1,H1,I1,q1⟩=>?_);exact h2 pins s1 σ1 H1 _ _ Q I1 rr q1
noncomputable def aHe(K:PySem.W.Frag)(n:Nat)(t:TGs):TG:=λv σ H Q=>∃ a xs,v=.ref a/\gR K H a xs/\xs.length=n/\t xs σ H Q
theorem SY{es:List Expr}{k:Nat}{t:TGs}{n:Nat}(hc:X.calm=true)(h:PGs X es t)
  (hn:(assignEach es X.env).length=n:=by rfl) (hst:(assignEach es X.env).findIdx? (·.1)=none:=by rfl):PG X (.Tuple es k pos) (aHe X.K n t):=by
 intro pins s σ H v u Q I r hw;obtain ⟨a,xs,e1,hq,hl,hw⟩:=hw;subst e1;cases r;obtain ⟨its,rv,ht,hz⟩:=I.tuple hq;refine assign_Tuple_tuple (I.ok.hd hc) ht (by simp [hn,<- hl,rv.length]) hst λh' hx=>?_;have I1:Inv X pins σ H { s with heap:=h' }:=I.kept (t':=s.toks) λb o e=>hx b o (Nat.ne_of_lt (Heap.lt_size e)) e;exact h pins _ σ H xs _ Q I1 (by simpa using rv) hw
noncomputable def aHf(to ti:TE)(t:aBR):TG:=λv σ H Q=>to σ H λo H1=>ti σ H1 λi H2=>t o i v H2 λH3=>Q σ H3
theorem aBS{o i:Expr}{to ti:TE}{t:aBR}(ho:PE X o to)(hi:PE X i ti)(hs:aDj X t)
  (ha:∀ v,assign (.Subscript o i pos) X.env v=(do
   let ov <- holding [v] (eval o X.env)
   let iv <- holding [v,ov] (eval i X.env)
   standAt pos
   holding [v,ov,iv] (setItem ov iv v)
   release [v,ov,iv] []):=by intro _; rfl):PG X (.Subscript o i pos) (aHf to ti t):=by
 intro pins s σ H v u Q I r h;rw [ha];refine wpAny_bind (wpAny_holding (eS (ho pins s σ H _ I h) λov s1 ⟨x,H1,I1,r1,q1⟩=>?_));refine wpAny_bind (wpAny_holding (eS (hi pins s1 σ H1 _ I1 q1) λiv s2 ⟨y,H2,I2,r2,q2⟩=>?_));refine wpAny_bind (wpAny_standAt (wpAny_bind (wpAny_holding (eS (hs pins s2 σ H2 x y v ov iv u _ I2 r1 r2 r q2) λ_ s3 ⟨H3,I3,q3⟩=>?_))));exact wpAny_release ⟨σ,H3,I3,q3⟩
noncomputable def aBT(te:TE)(g:TG):TS:=λD σ H=>te σ H λx H1=>g x σ H1 D.nx
theorem aBU{tg e:Expr}{te:TE}{g:TG}(he:PE X e te)(hg:PG X tg g)(hs:swapsWithSole [tg] e pos.line X.env=pure false:=by rfl)(hw:swappedStores [tg] e X.env=pure none:=by rfl)
  (h1:(assignEach [tg] X.env).map (·.2)=[assign tg X.env]:=by rfl):PS X (.Assign [tg] e pos) (aBT te g):=by
 intro pins s σ H D I h;refine wpAny_Assign_stores (eS (he pins s σ H _ I h) λv s1 ⟨x,H1,I1,r1,q1⟩=>?_) hs hw;rw [h1];exact eS (hg pins s1 σ H1 x v _ I1 r1 q1) λ_ s2 q=>q
theorem qI{i:Nat}{x:Str}{e:Expr}{te:TE}{pos':Pos}(hN:X.N.Nodup)(hi:X.N[i]? = some x)(hx:Loc X.env.scope x)(he:PE X e te)(hs:swapsWith e (some (.Name x pos')) pos.line X.env=pure false:=by rfl)(hf:X.fn x=true\/X.env.scope.names.lookup x=some .local:=by first | exact .inl rfl | exact .inr rfl | assumption) :
  PS X (.Assign [.Name x pos'] e pos) (aBT te (SX i)):=by
 intro pins s σ H D I h;refine wpAny_Assign_Name (eS (he pins s σ H _ I h) λv s1 ⟨y,H1,I1,r1,q1⟩=>?_) hs;exact FF I1 hN hi hx r1 (λs2 I2=>⟨_,H1,I2,q1⟩) hf
end
section
variable{X:Cx}{pos:Pos}
noncomputable def aBV(c:TT)(tb:TS):TS:=λD σ H=>∃ W:Nat->St->Hp->Prop,(∃ m,W m σ H) /\ ∀ m σ H,W m σ H ->
 c σ H λb H1=>if b=true then ∃ N:St->Hp->Prop,(∀ σ' H',N σ' H' -> ∃ m',m'<m/\W m' σ' H')/\tb { D with nx:=N,ct:=N,bk:=D.nx } σ H1 else D.nx σ H1
theorem S3{c:Expr}{body:List Stmt}{tc:TT}{tb:TS}(hp:PassesOwn (model X.prog X.w) X.A X.env X.xe)(hc:PT X c tc)(hb:A2 X body tb):PS X (.While c body [] pos) (aBV tc tb):=by
 intro pins s σ H D I h;obtain ⟨W,⟨m0,w0⟩,turn⟩:=h;refine wpAny_While (codeAny_whileLoop (λn s'=>∃ σ' H',Inv X pins σ' H' s'/\W n σ' H') ?_ m0 ⟨σ,H,I,w0⟩);rintro n s1 ⟨σ1,H1,I1,w1⟩;refine wpAny_passesOwn hp (eS (hc pins s1 σ1 H1 _ I1 (turn n σ1 H1 w1)) λb s2 ⟨H2,I2,q2⟩=>?_)
 cases b with
 | true =>
  obtain ⟨N,hN,q2⟩:=q2;rw [if_pos rfl];refine wpAny_passesOwn hp (eS (hb pins s2 σ1 H2 _ I2 q2) λf s3 q3=>?_)
  cases f with
  | next =>
   obtain ⟨σ3,H3,I3,n3⟩:=q3;obtain ⟨m',hm,w3⟩:=hN σ3 H3 n3;exact ⟨m',hm,σ3,H3,I3,w3⟩
  | cont =>
   obtain ⟨σ3,H3,I3,n3⟩:=q3;obtain ⟨m',hm,w3⟩:=hN σ3 H3 n3;exact ⟨m',hm,σ3,H3,I3,w3⟩
  | brk=>exact q3
  | ret v=>exact q3
 | false =>
  rw [if_neg Bool.false_ne_true];exact wpAny_execs_nil ⟨σ1,H2,I2,q2⟩
end
structure It where
 go:Nat->Hp->Prop
 yld:Nat->Hp->V->Hp->Prop
 stop:Nat->Hp->Prop
noncomputable def pH(X:Cx)(pins:List (Addr×Obj))(H:Hp)(b:Addr):Prop :=
 H b=none/\b≠X.env.locals/\b∉X.fs/\(b∈X.ex\/X.s₀.heap.objs.size<=b)/\(∀ x c,X.env.cells.lookup x=some c->c≠b) /\ ∀ p∈X.pn++pins,p.1≠b
theorem Inv.FG{X:Cx}{pins:List (Addr×Obj)}{σ:St}{H H':Hp}{s:Shared}{b:Addr}(I:Inv X pins σ H s)(hb:s.heap.objs.size<=b)(hn:H' b=none):pH X pins H' b:=by
 refine ⟨hn,Nat.ne_of_gt (Nat.lt_of_lt_of_le I.lt hb),I.aH8 hb,.inr (Nat.le_trans I.sz hb),λx c e z=>?_,λp hp z=>?_⟩
 .obtain ⟨v,q⟩:=I.cell x c e;exact absurd (Nat.lt_of_lt_of_le q.lt (by rw [z]; exact hb)) (Nat.lt_irrefl _)
 .exact absurd (Nat.lt_of_lt_of_le (Heap.lt_size (I.pin p hp).1) (by rw [z]; exact hb)) (Nat.lt_irrefl _)
structure Turn (P:Program) (w:World) (K:PySem.W.Frag) (tg:Expr) (J:It) (fp:List Addr) (it:Addr) (tn:Nat->Heap->Prop):Prop where
 mem:it∈fp
 obj:∀ i h,tn i h -> ∀ b∈fp,∃ o,h.get? b=some o /\ ∀ v,o.data≠.cell v
 keep:∀ i h h',tn i h->(∀ b∈fp,∀ o,h.get? b=some o->h'.get? b=some o)->tn i h'
 item:∀ (X:Cx),X.prog=P->X.w=w->X.K=K->X.calm=true -> ∀ (i:Nat) (pins:List (Addr×Obj)) (s:Shared) (σ:St) (H:Hp) (E:Value->Shared->Prop),Inv X pins σ H s->(∀ b∈fp,pH X pins H b)->tn i s.heap->J.go i H ->
  wpAny (model P w) X.A (pyNext (.ref it)) (λr s1=>∃ u,r=some u /\
   wpAny (model P w) X.A (letOwnedTupleGo tg (.ref it) u) (λ_ s2=>∃ x H',Inv X pins σ H' s2/\RelV x u/\J.yld i H x H'/\tn (i+1) s2.heap /\ ∀ b∈fp,H' b=none) E s1) E s
 done:∀ (X:Cx),X.prog=P->X.w=w->X.K=K->X.calm=true -> ∀ (i:Nat) (pins:List (Addr×Obj)) (s:Shared) (σ:St) (H:Hp) (E:Value->Shared->Prop),Inv X pins σ H s->(∀ b∈fp,pH X pins H b)->tn i s.heap->J.stop i H ->
  wpAny (model P w) X.A (pyNext (.ref it)) (λr s1=>r=none/\Inv X pins σ H s1) E s
 self:∀ (A:Around) (i:Nat) (s:Shared) (Q:Value->Shared->Prop) (E:Value->Shared->Prop),tn i s.heap->Q (.ref it) s->wpAny (model P w) A (pyIter (.ref it)) Q E s
noncomputable abbrev TI:=St->Hp->(It->Hp->Prop)->Prop
noncomputable def PIE(X:Cx)(pins:List (Addr×Obj))(σ:St)(tg:Expr)(R:It->Hp->Prop)(itv:Value)(s2:Shared):Prop :=
 ∃ (it:Addr) (fp:List Addr) (tn:Nat->Heap->Prop) (J:It) (H':Hp),itv=.ref it/\Inv X pins σ H' s2/\Turn X.prog X.w X.K tg J fp it tn/\tn 0 s2.heap/\(∀ b∈fp,pH X pins H' b)/\R J H'
noncomputable def PI(X:Cx)(tg iter:Expr)(wi:TI):Prop :=
 ∀ (pins:List (Addr×Obj)) (s:Shared) (σ:St) (H:Hp) (R:It->Hp->Prop),Inv X pins σ H s->wi σ H R ->
  wpAny (model X.prog X.w) X.A (eval iter X.env) (λv s1=>wpAny (model X.prog X.w) X.A (pyIter v) (PIE X pins σ tg R) X.xe s1) X.xe s
theorem S4{M:Model}{A:Around}{E:Value->Shared->Prop}{s:Shared}{tg:Expr}{it:Addr}{u:Value}{o:Obj}{n:String}{vs:Array Value}{Q:Unit->Shared->Prop}(ho:s.heap.get? it=some o)(hc:o.cls=.type n)(hd:o.data=.fields vs)
  (hn:["enumerate", "zip", "dict_itemiterator", "dict_reverseitemiterator", "odict_iterator", "itertools.zip_longest", "itertools.pairwise"].contains n=false) (hQ:Q () s):wpAny M A (letOwnedTupleGo tg (.ref it) u) Q E s:=by
 unfold letOwnedTupleGo;cases tg<;>first
  | exact wpAny_pure hQ
  | (cases u<;>first
    | exact wpAny_pure hQ
    | (refine wpAny_bind (wpAny_load ho ?_)
       rw [hc,hd];show wpAny M A (if (["enumerate", "zip", "dict_itemiterator", "dict_reverseitemiterator", "odict_iterator", "itertools.zip_longest", "itertools.pairwise"].contains n&&vs[0]? == some (rawInt _))=true then _ else _) Q E s;rw [if_neg (by intro h; rw [hn,Bool.false_and] at h; cases h)];exact wpAny_pure hQ))
noncomputable def Itl(K:PySem.W.Frag)(a:Addr):It :=
 ⟨λi H=>∃ xs x,eO K H a xs/\xs[i]? = some x,λi H x H'=>H' = H /\ ∀ xs,eO K H a xs->xs[i]? = some x,λi H=>∃ xs,eO K H a xs/\xs.length<=i⟩
noncomputable def Itt(K:PySem.W.Frag)(a:Addr):It :=
 ⟨λi H=>∃ xs x,gR K H a xs/\xs[i]? = some x,λi H x H'=>H' = H /\ ∀ xs,gR K H a xs->xs[i]? = some x,λi H=>∃ xs,gR K H a xs/\xs.length<=i⟩
noncomputable def Itr(lo:Int)(n:Nat):It:=⟨λi _=>i<n,λi H x H'=>H' = H/\x=.int (lo+i),λi _=>n<=i⟩
theorem NN{P:Program}{w:World}{K:PySem.W.Frag}{tg:Expr}(a it:Addr):Turn P w K tg (Itl K a) [it] it (λi h=>h.IsListIter it a i) where
 mem:=by simp
 obj:=λi h st b hb=>by
  have e:b=it:=by simpa using hb
  subst e;obtain ⟨o,e,c,d⟩:=st;exact ⟨o,e,λv z=>by rw [d] at z; cases z⟩
 keep:=λi h h' st k=>st.at λo e=>k it (by simp) o e
 item:=by intro X hP hw hK hc i pins s σ H E I hf st hg;subst hP hw hK;obtain ⟨xs,x,hq,hx⟩:=hg;obtain ⟨its,rv,p,hz⟩:=I.list hq;obtain ⟨u,hu,ru⟩:=rv.get hx;obtain ⟨f0,f1,f2,f3,f4,f5⟩:=hf it (by simp);refine wpAny_pyNext_list_item st p.isList (x:=u) (by simpa using hu) λh' st' sb=>?_;have I1:Inv X pins σ H { s with heap:=h' }:=I.turned (t':=s.toks) (λb o hb e=>(sb.2 b hb).trans e) f0 f1 f3 f4 f5;obtain ⟨o,e,c,d⟩:=id st';exact ⟨u,rfl,S4 (s:={ s with heap:=h' }) e c d (by decide) ⟨x,H,I1,ru,⟨rfl,λys hy=>by rw [I.fO hy hq]; exact hx⟩,st',λb hb=>(hf b hb).1⟩⟩
 done:=by intro X hP hw hK hc i pins s σ H E I hf st hg;subst hP hw hK;obtain ⟨xs,hq,hx⟩:=hg;obtain ⟨its,rv,p,hz⟩:=I.list hq;obtain ⟨f0,f1,f2,f3,f4,f5⟩:=hf it (by simp);have hl:=rv.length;exact wpAny_pyNext_list_end (I.ok.hd hc) st p.isList (by simp; omega) λh' eb=>⟨rfl,I.turned (t':=s.toks) (λb o hb e=>eb b o hb e) f0 f1 f3 f4 f5⟩
 self:=λ_ _ _ _ _ st h=>wpAny_pyIter_listiter st h
theorem IB{P:Program}{w:World}{K:PySem.W.Frag}{tg:Expr}(a it:Addr):Turn P w K tg (Itt K a) [it] it (λi h=>h.IsTupleIter it a i) where
 mem:=by simp
 obj:=λi h st b hb=>by
  have e:b=it:=by simpa using hb
  subst e;obtain ⟨o,e,c,d⟩:=st;exact ⟨o,e,λv z=>by rw [d] at z; cases z⟩
 keep:=λi h h' st k=>st.at λo e=>k it (by simp) o e
 item:=by intro X hP hw hK hc i pins s σ H E I hf st hg;subst hP hw hK;obtain ⟨xs,x,hq,hx⟩:=hg;obtain ⟨its,rv,p,hz⟩:=I.tuple hq;obtain ⟨u,hu,ru⟩:=rv.get hx;obtain ⟨f0,f1,f2,f3,f4,f5⟩:=hf it (by simp);refine wpAny_pyNext_tuple_item st (show s.heap.IsTuple a its.toArray from p) (x:=u) (by simpa using hu) λh' st' sb=>?_;have I1:Inv X pins σ H { s with heap:=h' }:=I.turned (t':=s.toks) (λb o hb e=>(sb.2 b hb).trans e) f0 f1 f3 f4 f5;obtain ⟨o,e,c,d⟩:=id st';exact ⟨u,rfl,S4 (s:={ s with heap:=h' }) e c d (by decide) ⟨x,H,I1,ru,⟨rfl,λys hy=>by rw [I.oX hy hq]; exact hx⟩,st',λb hb=>(hf b hb).1⟩⟩
 done:=by intro X hP hw hK hc i pins s σ H E I hf st hg;subst hP hw hK;obtain ⟨xs,hq,hx⟩:=hg;obtain ⟨its,rv,p,hz⟩:=I.tuple hq;obtain ⟨f0,f1,f2,f3,f4,f5⟩:=hf it (by simp);have hl:=rv.length;exact wpAny_pyNext_tuple_end (I.ok.hd hc) st (show s.heap.IsTuple a its.toArray from p) (by simp; omega) λh' eb=>⟨rfl,I.turned (t':=s.toks) (λb o hb e=>eb b o hb e) f0 f1 f3 f4 f5⟩
 self:=λ_ _ _ _ _ st h=>wpAny_pyIter_tupleiter st h
theorem IC{P:Program}{w:World}{K:PySem.W.Frag}{tg:Expr}(it:Addr)(lo:Int)(n:Nat):Turn P w K tg (Itr lo n) [it] it (λi h=>IsRangeIter h it (lo+(i:Nat)*1) ((n:Int) - (i:Nat)) 1) where
 mem:=by simp
 obj:=λi h st b hb=>by
  have e:b=it:=by simpa using hb
  subst e;exact ⟨_,st,λv z=>by have z':Data.fields _=Data.cell v:=z;cases z'⟩
 keep:=λi h h' st k=>k it (by simp) _ st
 item:=by intro X hP hw hK hc i pins s σ H E I hf st hg;subst hP hw hK;obtain ⟨f0,f1,f2,f3,f4,f5⟩:=hf it (by simp);have W:=Walks.range (prog:=X.prog) (w:=X.w) (I.ok.hd hc) it lo 1 n;refine W.item i s _ _ hg st λv h' tk hv st' kk=>?_;obtain ⟨t,rfl⟩:=hv;have I1:Inv X pins σ H { s with heap:=h',toks:=tk }:=I.turned (λb o hb e=>kk b o (by simpa using hb) e) f0 f1 f3 f4 f5;refine ⟨_,rfl,S4 (s:={ s with heap:=h',toks:=tk }) (n := "range_iterator") st' rfl rfl (by decide) ⟨.int (lo+i),H,I1,⟨t,?_⟩,⟨rfl,rfl⟩,st',λb hb=>(hf b hb).1⟩⟩;rw [Int.mul_one]
 done:=by intro X hP hw hK hc i pins s σ H E I hf st hg;subst hP hw hK;obtain ⟨f0,f1,f2,f3,f4,f5⟩:=hf it (by simp);exact wpAny_pyNext_range_end (I.ok.hd hc) st (by have:n<=i:=hg; omega) λh' eb=>⟨rfl,I.turned (t':=s.toks) (λb o hb e=>eb b o hb e) f0 f1 f3 f4 f5⟩
 self:=λ_ _ _ _ _ st h=>wpAny_pyIter_rangeiter st h
end L2
namespace L2
open PySem PySem.Spec PyProof.Rows
section
variable{X:Cx}{tg:Expr}
theorem S5{pins:List (Addr×Obj)}{σ:St}{H:Hp}{s:Shared}{R:It->Hp->Prop}{E:Value->Shared->Prop}{lo hi:Int}{t u v:Tok}{tk:Nat}(I:Inv X pins σ H s)(h1:-(2 ^ 62)<=lo)(h2:lo<2 ^ 62)(h3:-(2 ^ 62)<=hi)(h4:hi<2 ^ 62)
  (q:R (Itr lo (hi - lo).toNat) H):wpAny (model X.prog X.w) X.A (pyIter (.ref s.heap.objs.size)) (PIE X pins σ tg R) E { s with heap:=s.heap.push { cls:=.type "range",data:=.fields #[.int lo t,.int hi u,.int 1 v] },toks:=tk }:=by
 refine wpAny_pyIter_range (IsRange.new ..) (small_one h1 h2 h3 h4) ?_;have I1:Inv X pins σ H { s with heap:=s.heap.push { cls:=.type "range",data:=.fields #[.int lo t,.int hi u,.int 1 v] },toks:=tk }:=I.kept λb o e=>Heap.get?_push_of_some _ e;refine ⟨(s.heap.push { cls:=.type "range",data:=.fields #[.int lo t,.int hi u,.int 1 v] }).objs.size,[(s.heap.push { cls:=.type "range",data:=.fields #[.int lo t,.int hi u,.int 1 v] }).objs.size],_,_,H,rfl,
  I1.kept (t':=tk) λb o e=>Heap.get?_push_of_some _ e,IC _ lo (hi - lo).toNat,?_,λb hb=>?_,q⟩
 .have e1:lo+((0:Nat):Int)*1=lo:=by simp
  have e2:(((hi - lo).toNat:Nat):Int) - ((0:Nat):Int)=Builtin.Range.rangeSize lo hi 1:=by rw [rangeSize_one]; split<;>omega
  show IsRangeIter _ _ (lo+((0:Nat):Int)*1) ((((hi - lo).toNat:Nat):Int) - ((0:Nat):Int)) 1;rw [e1,e2];exact Heap.get?_push_size _ rfl
 .have e:b=(s.heap.push { cls:=.type "range",data:=.fields #[.int lo t,.int hi u,.int 1 v] }).objs.size:=by simpa using hb
  subst e;exact I1.FG (Nat.le_refl _) (I1.hok.fresh (Nat.le_refl _))
noncomputable def aDl(ta:TA):TI:=λσ H R=>ta σ H λvs H1=>∃ j:Int,vs=[.int j] /\ -(2 ^ 62)<=j/\j<2 ^ 62/\R (Itr 0 j.toNat) H1
theorem NO{a:Expr}{ta:TA}{p pos:Pos}(hg:Gl X "range")(hm:X.mg "range" = none)(ha:PA X [a] ta)(hs:starEach [a] X.env=[(false,eval a X.env)]:=by rfl):PI X tg (.Call (.Name "range" p) [a] [] pos) (aDl ta):=by
 intro pins s σ H R I h;refine Call_ (qH I hg hm boot_range (PyProof.Rows.callWith_type1 (eS (ha pos pins s σ H _ I h) λus s1 ⟨vs,H1,I1,r1,q1⟩=>?_) hs rfl));obtain ⟨j,e,q1,q2,q⟩:=q1;subst e
 cases r1 with
 | cons r rr =>
  cases rr;obtain ⟨t,rfl⟩:=r;exact call_range_1 (S5 I1 (by omega) (by omega) q1 q2 (by simpa using q))
noncomputable def aHi(wi:TI)(g:TG)(tb:TS):TS:=λD σ H=>wi σ H λJ H1=>∃ W:Nat->Nat->St->Hp->Prop,(∃ m,W 0 m σ H1) /\ ∀ i m σ H,W i m σ H ->
 (J.stop i H/\D.nx σ H)\/(J.go i H /\ ∃ N:St->Hp->Prop,(∀ σ' H',N σ' H' -> ∃ m',m'<m/\W (i+1) m' σ' H') /\ ∀ x H',J.yld i H x H'->g x σ H' λσ2 H2=>tb { D with nx:=N,ct:=N,bk:=D.nx } σ2 H2)
noncomputable def x8(fp:List Addr)(h:Heap):List (Addr×Obj):=fp.filterMap λb=>(h.get? b).map λo=>(b,o)
theorem mJ{fp:List Addr}{h:Heap}{b:Addr}{o:Obj}(hb:b∈fp)(e:h.get? b=some o):(b,o)∈x8 fp h:=List.mem_filterMap.mpr ⟨b,hb,by rw [e]; rfl⟩
theorem NP{fp:List Addr}{h:Heap}{p:Addr×Obj}(hp:p∈x8 fp h):p.1∈fp/\h.get? p.1=some p.2:=by
 obtain ⟨b,hb,e⟩:=List.mem_filterMap.mp hp
 cases q:h.get? b with
 | none=>rw [q] at e; cases e
 | some o =>
  rw [q] at e;have e':(b,o)=p:=Option.some.inj e;subst e';exact ⟨hb,q⟩
theorem Inv.pinned{pins:List (Addr×Obj)}{σ:St}{H:Hp}{s:Shared}{fp:List Addr}(I:Inv X pins σ H s)(hf:∀ b∈fp,pH X pins H b)(ho:∀ b∈fp,∃ o,s.heap.get? b=some o /\ ∀ v,o.data≠.cell v):Inv X (pins++x8 fp s.heap) σ H s :=
 I.LC λp hp=>(List.mem_append.mp hp).elim (λz=>I.pin p (mem_append_right _ z)) λz=>by obtain ⟨hb,e⟩:=NP z;obtain ⟨f0,f1,f2,_⟩:=hf p.1 hb;obtain ⟨o,e',d⟩:=ho p.1 hb;rw [e] at e'; cases e';exact ⟨e,f0,f1,f2,d⟩
theorem Inv.rT{pins pl:List (Addr×Obj)}{σ:St}{H:Hp}{s:Shared}(I:Inv X (pins++pl) σ H s):Inv X pins σ H s:=I.LC λp hp=>I.pin p (mem_append_right _ (mem_append_left _ hp))
theorem aBW{iter:Expr}{body:List Stmt}{wi:TI}{g:TG}{tb:TS}{pos:Pos}(hp:PassesOwn (model X.prog X.w) X.A X.env X.xe)(hc:X.calm=true)(hi:PI X tg iter wi)(hg:PG X tg g)(hb:A2 X body tb)
  (hs:∀ x,foldedSetIterable iter X.env x=pure x:=by intro _; rfl):PS X (.For tg iter body [] pos) (aHi wi g tb):=by
 intro pins s σ H D I h;refine wpAny_For (eS (hi pins s σ H _ I h) λv s1 h1=>eS h1 λitv s2 h2=>?_) hs;obtain ⟨it,fp,tn,J,H2,e,I2,T,st2,f2,W,⟨m0,w0⟩,turn⟩:=h2;subst e
 -- what stays true of the iterator's objects through the loop
 have stat:∀ {H':Hp},(∀ b∈fp,H' b=none) -> ∀ b∈fp,pH X pins H' b:=λhn b hb=>⟨hn b hb,(f2 b hb).2⟩;refine codeAny_forLoop_any (λn s'=>∃ i σ' H',Inv X pins σ' H' s'/\tn i s'.heap/\(∀ b∈fp,H' b=none)/\W i n σ' H') ?_ m0 ⟨0,σ,H2,I2,st2,λb hb=>(f2 b hb).1,w0⟩;rintro n s3 ⟨i,σ3,H3,I3,st3,fr3,w3⟩;rcases turn i n σ3 H3 w3 with ⟨stop,qn⟩ | ⟨go,N,hN,step⟩
 .refine wpAny_passesOwn hp (eS (T.done X rfl rfl rfl hc i pins s3 σ3 H3 X.xe I3 (stat fr3) st3 stop) λr s4 ⟨hr,I4⟩=>?_);subst hr;exact wpAny_execs_nil ⟨σ3,H3,I4,qn⟩
 .refine wpAny_passesOwn hp (eS (T.item X rfl rfl rfl hc i pins s3 σ3 H3 X.xe I3 (stat fr3) st3 go) λr s4 ⟨u,hr,h4⟩=>?_);subst hr;refine wpAny_passesOwn hp (eS h4 λ_ s5 ⟨x,H5,I5,r5,y5,st5,fr5⟩=>?_);have I5':=I5.pinned (stat fr5) (T.obj _ _ st5);refine wpAny_passesOwn hp (eS (hg _ s5 σ3 H5 x u _ I5' r5 (step x H5 y5)) λ_ s6 ⟨σ6,H6,I6,q6⟩=>?_);refine wpAny_passesOwn hp (eS (hb _ s6 σ6 H6 _ I6 q6) λf s7 q7=>?_);have again:∀ {σ7:St} {H7:Hp},Inv X (pins++x8 fp s5.heap) σ7 H7 s7->N σ7 H7 -> ∃ m,m<n /\ ∃ i σ' H',Inv X pins σ' H' s7/\tn i s7.heap/\(∀ b∈fp,H' b=none)/\W i m σ' H':=λ{σ7 H7} I7 n7=>by obtain ⟨m',hm,w7⟩:=hN σ7 H7 n7;refine ⟨m',hm,i+1,σ7,H7,I7.rT,T.keep _ _ _ st5 λb hb o e=>(I7.pin (b,o) (mem_append_right _ (mem_append_right _ (mJ hb e)))).1,λb hb=>?_,w7⟩;obtain ⟨o,e,d⟩:=T.obj _ _ st5 b hb;exact (I7.pin (b,o) (mem_append_right _ (mem_append_right _ (mJ hb e)))).2.1
  cases f with
  | next=>obtain ⟨σ7,H7,I7,n7⟩:=q7; exact again I7 n7
  | cont=>obtain ⟨σ7,H7,I7,n7⟩:=q7; exact again I7 n7
  | brk=>obtain ⟨σ7,H7,I7,q7⟩:=q7; exact ⟨σ7,H7,I7.rT,q7⟩
  | ret v=>obtain ⟨x7,σ7,H7,I7,r7,q7⟩:=q7; exact ⟨x7,σ7,H7,I7.rT,r7,q7⟩
end
end L2
namespace L2
open PySem PySem.Spec PyProof.Rows
noncomputable abbrev R2:=V->V->Hp->VK->Prop
noncomputable def nC(X:Cx)(f:Value->Value->Sem Value)(r:R2):Prop :=
 ∀ (pins:List (Addr×Obj)) (s:Shared) (σ:St) (H:Hp) (x y:V) (v u:Value) (Q:VK),Inv X pins σ H s->RelV x v->RelV y u->r x y H Q ->
  wpAny (model X.prog X.w) X.A (f v u) (EP X pins σ Q) X.xe s
noncomputable def UnR(X:Cx)(f:Value->Sem Value)(r:V->Hp->VK->Prop):Prop :=
 ∀ (pins:List (Addr×Obj)) (s:Shared) (σ:St) (H:Hp) (x:V) (v:Value) (Q:VK),Inv X pins σ H s->RelV x v->r x H Q ->
  wpAny (model X.prog X.w) X.A (f v) (EP X pins σ Q) X.xe s
noncomputable def fP(X:Cx)(f:Value)(r:List V->Hp->VK->Prop):Prop :=
 ∀ (pins:List (Addr×Obj)) (s:Shared) (σ:St) (H:Hp) (xs:List V) (us:List Value) (Q:VK),Inv X pins σ H s->Vals xs us->r xs H Q ->
  wpAny (model X.prog X.w) X.A (call f us) (EP X pins σ Q) X.xe s
noncomputable def aHl(X:Cx)(r:V->Hp->(Bool->Hp->Prop)->Prop):Prop :=
 ∀ (pins:List (Addr×Obj)) (s:Shared) (σ:St) (H:Hp) (x:V) (v:Value) (Q:Bool->Hp->Prop),Inv X pins σ H s->RelV x v->r x H Q ->
  wpAny (model X.prog X.w) X.A (truthy v) (TP X pins σ Q) X.xe s
noncomputable def tOp(r:R2)(ta tb:TE):TE:=λσ H Q=>ta σ H λx H1=>tb σ H1 λy H2=>r x y H2 Q
noncomputable def tUn(r:V->Hp->VK->Prop)(ta:TE):TE:=λσ H Q=>ta σ H λx H1=>r x H1 Q
noncomputable def rI(C:Int->Int->Prop)(g:Int->Int->V):R2:=λx y H Q=>∃ i j,x=.int i/\y=.int j/\C i j/\Q (g i j) H
noncomputable def W4(g:Int->Int->V):R2:=λx y H Q=>∃ i j,x=.int i/\y=.int j/\Q (g i j) H
noncomputable def rU(g:Int->V):V->Hp->VK->Prop:=λx H Q=>∃ i,x=.int i/\Q (g i) H
section
variable{X:Cx}{a b c:Expr}{ta tb tc:TE}{pos:Pos}
theorem aBX(ha:PE X a ta)(hb:PE X b tb){pins:List (Addr×Obj)}{s:Shared}{σ:St}{H:Hp}{R:V->V->Hp->Prop}(I:Inv X pins σ H s)
  (h:ta σ H λx H1=>tb σ H1 λy H2=>R x y H2) {Q:Value->Shared->Prop} {f:Value->Value->Sem Value}
  (hf:∀ v u s2 x y H2,Inv X pins σ H2 s2->RelV x v->RelV y u->R x y H2->wpAny (model X.prog X.w) X.A (f v u) Q X.xe s2) :
  wpAny (model X.prog X.w) X.A (eval a X.env) (λv s₁=>wpAny (model X.prog X.w) X.A (eval b X.env) (λu s₂=>wpAny (model X.prog X.w) X.A (f v u) Q X.xe s₂) X.xe s₁) X.xe s:=by
 refine eS (ha pins s σ H _ I h) λv s1 hq1=>?_;obtain ⟨x,H1,I1,r1,q1⟩:=hq1;refine eS (hb pins s1 σ H1 _ I1 q1) λu s2 hq2=>?_;obtain ⟨y,H2,I2,r2,q2⟩:=hq2;exact hf v u s2 x y H2 I2 r1 r2 q2
theorem S6{op:Operator}{r:R2}(ho:nC X (binaryOp op) r)(ha:PE X a ta)(hb:PE X b tb):PE X (.BinOp a op b pos) (tOp r ta tb):=by intro pins s σ H Q I h;exact wpAny_BinOp (aBX ha hb I h λv u s2 x y H2 I2 rx ry q=>ho pins s2 σ H2 x y v u Q I2 rx ry q)
theorem aDo{op:UnaryOp}{r:V->Hp->VK->Prop}(ho:UnR X (unaryOp op) r)(ha:PE X a ta):PE X (.UnaryOp op a pos) (tUn r ta):=by intro pins s σ H Q I h;exact UnaryOp_ (eS (ha pins s σ H _ I h) λv s1 ⟨x,H1,I1,r1,q1⟩=>ho pins s1 σ H1 x v Q I1 r1 q1)
theorem opI{f:Value->Value->Sem Value}{C:Int->Int->Prop}{g:Int->Int->Int}
  (rule:∀ (i j:Int) (t u:Tok) (s:Shared) (Q:Value->Shared->Prop) (E:Value->Shared->Prop),C i j->Q (.int (g i j) s.toks) { s with toks:=s.toks+1 }->wpAny (model X.prog X.w) X.A (f (.int i t) (.int j u)) Q E s) :
  nC X f (rI C λi j=>.int (g i j)):=by
 intro pins s σ H x y v u Q I rx ry h;obtain ⟨i,j,rfl,rfl,hc,q⟩:=h;obtain ⟨t,rfl⟩:=rx;obtain ⟨t',rfl⟩:=ry;exact rule i j t t' s _ _ hc ⟨.int (g i j),H,I.tok _,⟨_,rfl⟩,q⟩
theorem aDp{f:Value->Value->Sem Value}{g:Int->Int->Int}
  (rule:∀ (i j:Int) (t u:Tok) (s:Shared) (Q:Value->Shared->Prop) (E:Value->Shared->Prop),Q (.int (g i j) s.toks) { s with toks:=s.toks+1 }->wpAny (model X.prog X.w) X.A (f (.int i t) (.int j u)) Q E s) :
  nC X f (W4 λi j=>.int (g i j)):=by
 intro pins s σ H x y v u Q I rx ry h;obtain ⟨i,j,rfl,rfl,q⟩:=h;obtain ⟨t,rfl⟩:=rx;obtain ⟨t',rfl⟩:=ry;exact rule i j t t' s _ _ ⟨.int (g i j),H,I.tok _,⟨_,rfl⟩,q⟩
theorem aBY{f:Value->Value->Sem Value}{g:Int->Int->Bool}
  (rule:∀ (i j:Int) (t u:Tok) (s:Shared) (Q:Value->Shared->Prop) (E:Value->Shared->Prop),Q (.bool (g i j)) s->wpAny (model X.prog X.w) X.A (f (.int i t) (.int j u)) Q E s) :
  nC X f (W4 λi j=>.bl (g i j)):=by
 intro pins s σ H x y v u Q I rx ry h;obtain ⟨i,j,rfl,rfl,q⟩:=h;obtain ⟨t,rfl⟩:=rx;obtain ⟨t',rfl⟩:=ry;exact rule i j t t' s _ _ ⟨.bl (g i j),H,I,rfl,q⟩
noncomputable def aDq(i j:Int):Prop:=0<j/\j<1073741824
noncomputable def aDr(i j:Int):Prop:=0<=j/\j<=1000000/\i.natAbs<2 ^ 64
noncomputable def YG(i j:Int):Prop:=(-(2 ^ 64)<i/\i<2 ^ 64)\/(-(2 ^ 64)<j/\j<2 ^ 64)
theorem YG.ok{i j:Int}(h:YG i j):IntMulOk i j:=by
 rcases h with ⟨h1,h2⟩ | ⟨h1,h2⟩
 .exact .of_left (intBits_le_64 h1 h2)
 .exact .of_right (intBits_le_64 h1 h2)
theorem aBZ:nC X (binaryOp .Add) (W4 λi j=>.int (i+j)):=aDp λ_ _ _ _ _ _ _ q=>add_int q
theorem aB0:nC X (binaryOp .Sub) (W4 λi j=>.int (i - j)):=aDp λ_ _ _ _ _ _ _ q=>sub_int q
theorem YH:nC X (binaryOp .FloorDiv) (rI aDq λi j=>.int (i / j)):=opI λi j _ _ _ _ _ hc q=>by have h1:(0:Int)<j:=hc.1;have h2:j<1073741824:=hc.2;exact floordiv_int (by omega) (by rw [Int.fdiv_eq_ediv_of_nonneg i (by omega)]; exact q) (.inl (PyProof.noPylong_small (by omega)))
theorem aB1:nC X (binaryOp .Mod) (rI (λ_ j=>0<j) λi j=>.int (i % j)):=opI λi j _ _ _ _ _ hc q=>by have h1:(0:Int)<j:=hc;exact mod_int' (by omega) (by rw [Int.fmod_eq_emod_of_nonneg i (by omega)]; exact q)
theorem aB2:nC X (binaryOp .Pow) (rI aDr λi j=>.int (i ^ j.toNat)):=opI λ_ _ _ _ _ _ _ hc q=>pow_int_small hc.1 hc.2.1 hc.2.2 q
theorem unI{f:Value->Sem Value}{g:Int->Int}
  (rule:∀ (i:Int) (t:Tok) (s:Shared) (Q:Value->Shared->Prop) (E:Value->Shared->Prop),Q (.int (g i) s.toks) { s with toks:=s.toks+1 }->wpAny (model X.prog X.w) X.A (f (.int i t)) Q E s) :
  UnR X f (rU λi=>.int (g i)):=by
 intro pins s σ H x v Q I rx h;obtain ⟨i,rfl,q⟩:=h;obtain ⟨t,rfl⟩:=rx;exact rule i t s _ _ ⟨.int (g i),H,I.tok _,⟨_,rfl⟩,q⟩
theorem aB3:UnR X (unaryOp .USub) (rU λi=>.int (-i)):=unI λ_ _ _ _ _ q=>neg_int q
end
noncomputable def aB4:V->V->Bool
 | .non,.non=>true | .non,.int _=>true | .int _,.non=>true | .non,.bl _=>true | .bl _,.non=>true | .non,.str _=>true | .str _,.non=>true
 | .int _,.int _=>true | .bl _,.bl _=>true | .str _,.str _=>true | .NK _,.NK _=>true
 | .int _,.str _=>true | .str _,.int _=>true | .bl _,.str _=>true | .str _,.bl _=>true
 | _,_=>false
noncomputable def rEq:R2:=λx y H Q=>aB4 x y=true/\Q (.bl (decide (x=y))) H
noncomputable def rNe:R2:=λx y H Q=>aB4 x y=true/\Q (.bl (!decide (x=y))) H
theorem C7{i j:Int}:decide (V.int i=V.int j)=(i == j):=by rw [Bool.eq_iff_iff];simp
theorem ID{i j:Bool}:decide (V.bl i=V.bl j)=(i == j):=by rw [Bool.eq_iff_iff];simp
theorem C8{i j:Str}:decide (V.str i=V.str j)=(i == j):=by rw [Bool.eq_iff_iff];simp
theorem LI{i j:Array UInt8}:decide (V.NK i=V.NK j)=(i.toList == j.toList):=by rw [Bool.eq_iff_iff];cases i;cases j;simp
section
variable{X:Cx}{a b c:Expr}{ta tb tc:TE}{pos:Pos}
theorem cM{pins:List (Addr×Obj)}{σ:St}{H:Hp}{s:Shared}{Q:VK}{k k':Bool}(I:Inv X pins σ H s)(q:Q (.bl k) H)(e:k=k'):EP X pins σ Q (.bool k') s:=by subst e;exact ⟨.bl k,H,I,rfl,q⟩
theorem aAN:nC X (compareOp .Eq) rEq:=by
 intro pins s σ H x y v u Q I rx ry h;obtain ⟨hs,q⟩:=h
 cases x with
 | non =>
  cases rx
  cases y with
  | non=>cases ry; exact PySem.EqNone.eq_none_none (cM I q (by simp))
  | bl j=>cases ry; exact PySem.EqNone.eq_none_bool (cM I q (by simp))
  | int j=>obtain ⟨t',rfl⟩:=ry; exact PySem.EqNone.eq_none_int (cM I q (by simp))
  | str j=>obtain ⟨t',rfl⟩:=ry; exact PySem.EqNone.eq_none_str (cM I q (by simp))
  | _=>exact absurd (show false=true from hs) Bool.false_ne_true
 | bl i =>
  cases rx
  cases y with
  | non=>cases ry; exact PySem.EqNone.eq_bool_none (cM I q (by simp))
  | bl j=>cases ry; exact eq_bool (cM I q ID)
  | str j=>obtain ⟨t',rfl⟩:=ry; exact PySem.EqMixed.eq_bool_str (cM I q (by simp))
  | _=>exact absurd (show false=true from hs) Bool.false_ne_true
 | int i =>
  obtain ⟨t,rfl⟩:=rx
  cases y with
  | non=>cases ry; exact PySem.EqNone.eq_int_none (cM I q (by simp))
  | int j=>obtain ⟨t',rfl⟩:=ry; exact eq_int (cM I q C7)
  | str j=>obtain ⟨t',rfl⟩:=ry; exact PySem.EqMixed.eq_int_str (cM I q (by simp))
  | _=>exact absurd (show false=true from hs) Bool.false_ne_true
 | str i =>
  obtain ⟨t,rfl⟩:=rx
  cases y with
  | non=>cases ry; exact PySem.EqNone.eq_str_none (cM I q (by simp))
  | bl j=>cases ry; exact PySem.EqMixed.eq_str_bool (cM I q (by simp))
  | int j=>obtain ⟨t',rfl⟩:=ry; exact PySem.EqMixed.eq_str_int (cM I q (by simp))
  | str j=>obtain ⟨t',rfl⟩:=ry; exact eq_str (cM I q C8)
  | _=>exact absurd (show false=true from hs) Bool.false_ne_true
 | NK i =>
  obtain ⟨t,rfl⟩:=rx
  cases y with
  | NK j=>obtain ⟨t',rfl⟩:=ry; exact PySem.W.eq_bytes (cM I q LI)
  | _=>exact absurd (show false=true from hs) Bool.false_ne_true
 | _=>cases y<;>exact absurd (show false=true from hs) Bool.false_ne_true
theorem aAO:nC X (compareOp .NotEq) rNe:=by
 intro pins s σ H x y v u Q I rx ry h;obtain ⟨hs,q⟩:=h
 cases x with
 | non =>
  cases rx
  cases y with
  | non=>cases ry; exact PySem.EqNone.ne_none_none (cM I q (by simp))
  | bl j=>cases ry; exact PySem.EqNone.ne_none_bool (cM I q (by simp))
  | int j=>obtain ⟨t',rfl⟩:=ry; exact PySem.EqNone.ne_none_int (cM I q (by simp))
  | str j=>obtain ⟨t',rfl⟩:=ry; exact PySem.EqNone.ne_none_str (cM I q (by simp))
  | _=>exact absurd (show false=true from hs) Bool.false_ne_true
 | bl i =>
  cases rx
  cases y with
  | non=>cases ry; exact PySem.EqNone.ne_bool_none (cM I q (by simp))
  | bl j=>cases ry; exact ne_bool (cM I q (congrArg not ID))
  | str j=>obtain ⟨t',rfl⟩:=ry; exact PySem.EqMixed.ne_bool_str (cM I q (by simp))
  | _=>exact absurd (show false=true from hs) Bool.false_ne_true
 | int i =>
  obtain ⟨t,rfl⟩:=rx
  cases y with
  | non=>cases ry; exact PySem.EqNone.ne_int_none (cM I q (by simp))
  | int j=>obtain ⟨t',rfl⟩:=ry; exact ne_int (cM I q (congrArg not C7))
  | str j=>obtain ⟨t',rfl⟩:=ry; exact PySem.EqMixed.ne_int_str (cM I q (by simp))
  | _=>exact absurd (show false=true from hs) Bool.false_ne_true
 | str i =>
  obtain ⟨t,rfl⟩:=rx
  cases y with
  | non=>cases ry; exact PySem.EqNone.ne_str_none (cM I q (by simp))
  | bl j=>cases ry; exact PySem.EqMixed.ne_str_bool (cM I q (by simp))
  | int j=>obtain ⟨t',rfl⟩:=ry; exact PySem.EqMixed.ne_str_int (cM I q (by simp))
  | str j=>obtain ⟨t',rfl⟩:=ry; exact ne_str (cM I q (congrArg not C8))
  | _=>exact absurd (show false=true from hs) Bool.false_ne_true
 | NK i =>
  obtain ⟨t,rfl⟩:=rx
  cases y with
  | NK j=>obtain ⟨t',rfl⟩:=ry; exact PySem.W.ne_bytes (cM I q (congrArg not LI))
  | _=>exact absurd (show false=true from hs) Bool.false_ne_true
 | _=>cases y<;>exact absurd (show false=true from hs) Bool.false_ne_true
theorem aDs:nC X (compareOp .Lt) (W4 λi j=>.bl (decide (i<j))):=aBY λ_ _ _ _ _ _ _ q=>lt_int q
theorem aDt:nC X (compareOp .Gt) (W4 λi j=>.bl (decide (j<i))):=aBY λ_ _ _ _ _ _ _ q=>gt_int q
theorem aDu:nC X (compareOp .GtE) (W4 λi j=>.bl (decide (j<=i))):=aBY λ_ _ _ _ _ _ _ q=>ge_int q
theorem S8:nC X (compareOp .Is) (λx y H Q=>y=.non/\Q (.bl (decide (x=.non))) H):=by
 intro pins s σ H x y v u Q I rx ry h;obtain ⟨rfl,q⟩:=h;cases ry;refine is_none_gen (cM I q ?_);cases x<;>first
  | (cases rx; rfl)
  | (obtain ⟨t,rfl⟩:=rx; rfl)
theorem nC.or{f:Value->Value->Sem Value}{r r':R2}(h:nC X f r)(h':nC X f r'):nC X f (λx y H Q=>r x y H Q\/r' x y H Q):=by
 intro pins s σ H x y v u Q I rx ry q;rcases q with q | q
 .exact h pins s σ H x y v u Q I rx ry q
 .exact h' pins s σ H x y v u Q I rx ry q
theorem mK(b:Expr){op:CmpOp}(h:op≠.In:=by decide)(h2:op≠.NotIn:=by decide):behindInMarks op b=false:=by
 have e1:(op == CmpOp.In)=false:=by cases op<;>first | rfl | exact absurd rfl h
 have e2:(op == CmpOp.NotIn)=false:=by cases op<;>first | rfl | exact absurd rfl h2
 cases b<;>simp [behindInMarks,e1,e2]
theorem YI{op:CmpOp}{r:R2}(ho:nC X (compareOp op) r)(ha:PE X a ta)(hb:PE X b tb)(hm:behindInMarks op b=false):PE X (.Compare a [op] [b] pos) (tOp r ta tb):=by intro pins s σ H Q I h;exact wpAny_Compare1 (aBX ha hb I h λv u s2 x y H2 I2 rx ry q=>ho pins s2 σ H2 x y v u Q I2 rx ry q) hm
noncomputable def LJ(t:TE):TT:=λσ H Q=>t σ H λx H'=>∃ k,x=.bl k/\Q k H'
theorem YJ{op:CmpOp}{r:R2}(ho:nC X (compareOp op) r)(ha:PE X a ta)(hb:PE X b tb)(hm:behindInMarks op b=false):PT X (.Compare a [op] [b] pos) (LJ (tOp r ta tb)):=by
 intro pins s σ H Q I h;refine wpAny_isTrue_Compare1 (eS (ha pins s σ H _ I h) λv s1 ⟨x,H1,I1,r1,q1⟩=>eS (hb pins s1 σ H1 _ I1 q1) λu s2 ⟨y,H2,I2,r2,q2⟩ =>
  eS (ho pins s2 σ H2 x y v u _ I2 r1 r2 q2) λc s3 ⟨z,H3,I3,r3,k,e,q3⟩=>?_) hm
 subst e;cases r3;exact wpAny_truthy_bool ⟨H3,I3,q3⟩
noncomputable def aDv(K:PySem.W.Frag)(x:V)(H:Hp)(k:Bool):Prop :=
 match x with
 | .non=>k=false
 | .bl b=>k=b
 | .int i=>k=(i != 0)
 | .str y=>y.length<=sizeLine/\k=((y.length:Int) != 0)
 | .NK y=>y.size<=sizeLine/\k=((y.size:Int) != 0)
 | .ref p=>(∃ xs,eO K H p xs/\k=!xs.isEmpty)\/(∃ xs,gR K H p xs/\k=!xs.isEmpty) \/ ∃ kvs,H p=some (.dK kvs)/\k=!kvs.isEmpty
 | _=>False
theorem IE{κ:Type}{kvs:List (κ×V)}{vs:List (κ×Value)}(r:KV kvs vs):(!vs.isEmpty)=!kvs.isEmpty:=by cases r<;>rfl
theorem mL{xs:List V}{its:List Value}(r:Vals xs its):(!its.toArray.isEmpty)=!xs.isEmpty:=by cases r<;>simp
theorem x9:(sizeLine:Nat)<2 ^ 63:=by rw [sizeLine_eq]; decide
theorem aB5:aHl X (λx H Q=>∃ k,aDv X.K x H k/\Q k H):=by
 intro pins s σ H x v Q I rx h;obtain ⟨k,e,q⟩:=h;have hl:=x9;have hs:sizeLine=16777216:=sizeLine_eq
 cases x with
 | non =>
  cases rx;have e':k=false:=e;subst e';exact truthy_none ⟨H,I,q⟩
 | bl b =>
  cases rx;have e':k=b:=e;subst e';exact wpAny_truthy_bool ⟨H,I,q⟩
 | int i =>
  obtain ⟨t,rfl⟩:=rx;have e':k=(i != 0):=e;subst e';exact PySem.P.truthy_int ⟨H,I,q⟩
 | str y =>
  obtain ⟨t,rfl⟩:=rx;obtain ⟨hy,e'⟩:y.length<=sizeLine/\k=((y.length:Int) != 0):=e;subst e';exact PySem.P.truthy_str (by omega) ⟨H,I.tok _,q⟩
 | NK y =>
  obtain ⟨t,rfl⟩:=rx;obtain ⟨hy,e'⟩:y.size<=sizeLine/\k=((y.size:Int) != 0):=e;subst e';exact PySem.W.truthy_bytes (by omega) ⟨H,I.tok _,q⟩
 | ref p =>
  cases rx;have e':(∃ xs,eO X.K H p xs/\k=!xs.isEmpty)\/(∃ xs,gR X.K H p xs/\k=!xs.isEmpty) \/ ∃ kvs,H p=some (.dK kvs)/\k=!kvs.isEmpty:=e;rcases e' with ⟨xs,hx,e'⟩ | ⟨xs,hx,e'⟩ | ⟨kvs,hx,e'⟩
  .subst e';obtain ⟨its,r,pl,hz⟩:=I.list hx;have hlen:=r.length;exact wpAny_truthy_list pl.isList (by simp only [size_toArray]; omega) ⟨H,I.tok _,by rw [mL r]; exact q⟩
  .subst e';obtain ⟨its,r,pl,hz⟩:=I.tuple hx;have hlen:=r.length;exact truthy_tuple pl (by simp only [size_toArray]; omega) ⟨H,I.tok _,by rw [mL r]; exact q⟩
  .subst e';obtain ⟨hz,hS,vs,r,m⟩:kvs.length<=sizeLine/\(p == sysModules)=false /\ ∃ vs,KV kvs vs/\s.heap.DictOf (bC X.prog X.w) p vs:=I.hok p _ hx;have hlen:kvs.length=vs.length:=Paired.length r;exact wpAny_truthy_dict hS m (by omega) ⟨H,I.tok _,by rw [IE r]; exact q⟩
 | _=>exact (show False from e).elim
theorem S9(ha:PE X a ta)(he:∀ whole,isTrue a X.env whole=(do let v <- whole; standAt a.pos; holding [v] (truthy v))) :
  PT X a (λσ H Q=>ta σ H λx H'=>∃ k,aDv X.K x H' k/\Q k H'):=by
 intro pins s σ H Q I h;exact isTrue_plain (eS (ha pins s σ H _ I h) λv s1 ⟨x,H1,I1,r1,q1⟩=>aB5 pins s1 σ H1 x v Q I1 r1 q1) (he _)
theorem IF:nC X (binaryOp .Add) (λx y H Q=>∃ i j,x=.str i/\y=.str j/\i.length+j.length<=sizeLine/\Q (.str (i++j)) H):=by intro pins s σ H x y v u Q I rx ry h;obtain ⟨i,j,rfl,rfl,hz,q⟩:=h;obtain ⟨t,rfl⟩:=rx;obtain ⟨t',rfl⟩:=ry;exact add_str (λt' tk=>⟨.str (i++j),H,I.tok _,⟨_,rfl⟩,q⟩) hz
theorem vals1{x:V}{us:List Value}(r:Vals [x] us):∃ u,us=[u]/\RelV x u:=by
 cases r with
 | cons r1 r2=>cases r2; exact ⟨_,rfl,r1⟩
theorem vals2{x y:V}{us:List Value}(r:Vals [x,y] us):∃ u w',us=[u,w']/\RelV x u/\RelV y w':=by
 cases r with
 | cons r1 r2 =>
  cases r2 with
  | cons r3 r4=>cases r4; exact ⟨_,_,rfl,r1,r3⟩
end
end L2
namespace L2
open PySem PySem.Spec PyProof.Rows
structure aB6 (h:Heap) (x dx C:Addr) (mA:Str->Option Value):Prop where
 obj:h.get? x=some (PySem.W.instObj C dx)
 ns:h.Ns1 dx mA
 ne:dx≠x
theorem NQ{h:Heap}{dx:Addr}{mA:Str->Option Value}(n:h.Ns1 dx mA):∃ od,h.get? dx=some od /\ ∀ name,PySem.W.lookIn name od=some (mA name):=by
 obtain ⟨o,es,ep,ho,hd,hk,_,hm⟩:=n;refine ⟨o,ho,λname=>?_⟩;have e:=hm name;unfold nsFind findBy at e;rw [<- Array.find?_toList] at e;unfold PySem.W.lookIn;rw [hd];dsimp only;split
 .rename_i y q;rw [q] at e;exact congrArg some e
 .rename_i q;rw [q] at e;have a:es.toList.any (·.refKey)=false:=by rw [List.any_eq_false];intro y hy;obtain ⟨z,t,hkey⟩:=hk y (Array.mem_toList_iff.mp hy);simp [DictEntry.refKey,hkey]
  have a':¬ es.toList.any (·.refKey)=true:=by rw [a]; exact Bool.false_ne_true
  rw [if_neg a'];exact congrArg some e
theorem aB6.look{h:Heap}{x dx C:Addr}{mA:Str->Option Value}(I:aB6 h x dx C mA):∃ od,PySem.W.InstAt h x (PySem.W.instObj C dx) C (some od) /\ ∀ name,PySem.W.lookIn name od=some (mA name) :=
 let ⟨od,ho,hl⟩:=NQ I.ns
 ⟨od,⟨I.obj,rfl,rfl,ho⟩,hl⟩
section
variable{prog:Program}{w:World}{A:Around}{E:Value->Shared->Prop}{s:Shared}{K:PySem.W.Frag}{x dx C f:Addr}{mA:Str->Option Value}{name:Str}{v:Value}
end
theorem nW.some_of{v:V}{o:Option Value}(r:nW (some v) o):∃ u,o=some u/\RelV v u:=by
 cases o with
 | none=>exact (show False from r).elim
 | some u=>exact ⟨u,rfl,r⟩
section
variable{P:Program}{w:World}{H H':Hp}{h h':Heap}{a C dx:Addr}{fs fs':List (Str×V)}
theorem YK(hok:pT P w H h)(e:H a=some (.ins C dx fs)):∃ mA,aB6 h a dx C mA/\(∀ f,nW (fs.lookup f) (mA f))/\PySem.Within mA (fs.map (·.1))/\fs.length<=1000/\H dx=some (.own a):=by obtain ⟨d,z,ne,ob,mA,n,r,q⟩:=(show dJ P w H h a (.ins C dx fs) from hok a _ e);exact ⟨mA,⟨ob,n,ne⟩,r,q,z,d⟩
end
structure Cls (K:PySem.W.Frag) (C:Addr):Prop where
 pg:PySem.W.plainGet K C Str.empty=true
 hd:PySem.W.hasDictIn K C=true
 po:PySem.W.plainOver K C=true
 sa:PySem.W.findIn K (.ref C) "__setattr__" = some (some (.builtin "object.__setattr__"))
theorem Cls.get{K:PySem.W.Frag}{C:Addr}(c:Cls K C)(f:Str):PySem.W.plainGet K C f=true:=c.pg
structure Con (K:PySem.W.Frag) (C:Addr) (f:Str) (v:V) (u:Value):Prop where
 at_:PySem.W.findIn K (.ref C) f=some (some u)
 rel:RelV v u
 get:PySem.W.specialIn K u "__get__" = some none
 cp:PySem.W.copiedNames.contains f=false
section
variable{X:Cx}{pins:List (Addr×Obj)}{σ:St}{H:Hp}{s:Shared}{a C dx:Addr}{fs:List (Str×V)}{f:Str}{v:V}{A:Around}{E:Value->Shared->Prop}
end
section
variable{X:Cx}{o e value:Expr}{f:Str}{pos pos' tpos:Pos}{ta tv:TE}
end
section
variable{X:Cx}{pins:List (Addr×Obj)}{σ:St}{H:Hp}{s:Shared}{A:Around}{E:Value->Shared->Prop}{Q:Value->Shared->Prop}{c:Value}{b:Bool}
inductive rV (K:PySem.W.Frag) (H:Hp):V->Value->Prop where
 | non:rV K H .non (.type "NoneType")
 | bl (x:Bool):rV K H (.bl x) (.type "bool")
 | int (i:Int):rV K H (.int i) (.type "int")
 | str (x:Str):rV K H (.str x) (.type "str")
 | flt (x:UInt64):rV K H (.flt x) (.type "float")
 | lst {a:Addr} {xs:List V} (e:H a=some (.lst xs)):rV K H (.ref a) (.type "list")
 | xX {a:Addr} {o:Obj} {xs:List V} (e:H a=some (.xX o (.lst xs))):rV K H (.ref a) (.type "list")
 | tup {a:Addr} {xs:List V} (e:H a=some (.tup xs)):rV K H (.ref a) (.type "tuple")
 | dK {a:Addr} {kvs:List (Key×V)} (e:H a=some (.dK kvs)):rV K H (.ref a) (.type "dict")
 | dT {a:Addr} {kvs:List (List Key×V)} (e:H a=some (.dT kvs)):rV K H (.ref a) (.type "dict")
 | ins {a C dx:Addr} {fs:List (Str×V)} (e:H a=some (.ins C dx fs)) (cl:Cls K C) (ha:PySem.W.findIn K (.ref C) "__class__" = some (some (.builtin "object.__class__")))
   (hn:PySem.W.specialIn K (.builtin "object.__class__") "__get__" = some (some (.builtin "getset_descriptor.__get__"))) (htk:PySem.W.takesIn K (.builtin "object.__class__")=some true)
   (hm:PySem.W.mroIn K C (.type "object")=some true):rV K H (.ref a) (.ref C)
theorem NR{x:V}{u t:Value}(I:Inv X pins σ H s)(rx:RelV x u)(ty:rV X.K H x t)(e:PySem.W.kitOne X.K t c=some b)(h:∀ tk,Q (.bool b) { s with toks:=tk }) :
  wpAny (model X.prog X.w) A (call (.builtin "isinstance") [u,c]) Q E s:=by
 cases ty with
 | non=>cases (show u=Value.none from rx); exact PySem.W.kia_one PySem.W.kitx_none I.C6 True.intro e (λz=>nomatch z) h
 | bl y=>cases (show u=Value.bool y from rx); exact PySem.W.kia_one PySem.W.kitx_bool I.C6 True.intro e (λz=>nomatch z) h
 | int i=>obtain ⟨t,q⟩:=(show ∃ t,u=Value.int i t from rx); cases q; exact PySem.W.kia_one PySem.W.kitx_int I.C6 True.intro e (λz=>nomatch z) h
 | str y=>obtain ⟨t,q⟩:=(show ∃ t,u=Value.str y t from rx); cases q; exact PySem.W.kia_one PySem.W.kitx_str I.C6 True.intro e (λz=>nomatch z) h
 | flt y=>obtain ⟨t,q⟩:=(show ∃ t,u=Value.float y t from rx); cases q; exact PySem.W.kia_one PySem.W.kitx_float I.C6 True.intro e (λz=>nomatch z) h
 | @lst a xs ea =>
  cases (show u=Value.ref a from rx);obtain ⟨_,_,n,_,h1⟩:=(show dJ X.prog X.w H s.heap a (.lst xs) from I.hok a _ ea);exact PySem.W.kia_one PySem.W.kitx_list I.C6 ⟨_,h1,rfl⟩ e (λz=>nomatch z) h
 | @xX a ob xs ea =>
  cases (show u=Value.ref a from rx);obtain ⟨_,_,_,n,_,h1⟩:=(show dJ X.prog X.w H s.heap a (.xX ob (.lst xs)) from I.hok a _ ea);exact PySem.W.kia_one PySem.W.kitx_list I.C6 ⟨_,h1,rfl⟩ e (λz=>nomatch z) h
 | @tup a xs ea =>
  cases (show u=Value.ref a from rx);obtain ⟨_,_,_,p,_⟩:=(show dJ X.prog X.w H s.heap a (.tup xs) from I.hok a _ ea);obtain ⟨o,h1,h2,_⟩:=p;exact PySem.W.kia_one PySem.W.kitx_tuple I.C6 ⟨o,h1,h2⟩ e (λz=>nomatch z) h
 | @dK a kvs ea =>
  cases (show u=Value.ref a from rx);obtain ⟨_,_,vs,_,p⟩:=(show dJ X.prog X.w H s.heap a (.dK kvs) from I.hok a _ ea);obtain ⟨o,es,ep,h1,h2,_⟩:=p;exact PySem.W.kia_one PySem.W.kitx_dict I.C6 ⟨o,h1,h2.1⟩ e (λz=>nomatch z) h
 | @dT a kvs ea =>
  cases (show u=Value.ref a from rx);obtain ⟨_,_,xs,_,o,es,ep,h1,h2,_⟩:=(show dJ X.prog X.w H s.heap a (.dT kvs) from I.hok a _ ea);exact PySem.W.kia_one PySem.W.kitx_dict I.C6 ⟨o,h1,h2.1⟩ e (λz=>nomatch z) h
 | @ins a C dx fs ea cl ha hn htk hm =>
  cases (show u=Value.ref a from rx);obtain ⟨mA,O,_⟩:=YK I.hok ea;obtain ⟨od,J,_⟩:=O.look;exact PySem.W.kia_one (PySem.W.kitx_own (cl.get _) cl.hd ha hn htk hm) I.C6 J e (λz=>nomatch z) h
end
end L2
namespace L2
open PySem PySem.Spec PyProof.Rows
structure kB (k:Nat) (A:Around):Prop where
 hd:A.handled=none
 dp:A.depth+3*k+5<recursionLimit
 un:A.units+16*k+200<cLine
theorem kB.mono{j k:Nat}{A:Around}(r:kB k A)(h:j<=k):kB j A:=⟨r.hd,by have:=r.dp; omega,by have:=r.un; omega⟩
theorem kB.deeper{k:Nat}{A:Around}(r:kB (k+1) A)(env:Env):kB k (A.deeper env) :=
 ⟨r.hd,by have:=r.dp; show A.depth+1+3*k+5<_; omega,by have:=r.un; show A.units+3+16*k+200<_; omega⟩
theorem kB.depth{k:Nat}{A:Around}(r:kB k A):A.depth<recursionLimit:=by have:=r.dp; omega
noncomputable def aB7:TA:=λ_ H Q=>Q [] H
noncomputable def LK(ta:TE)(tr:TA):TA:=λσ H Q=>ta σ H λx H1=>tr σ H1 λxs H2=>Q (x::xs) H2
section
variable{X:Cx}{e:Expr}{es:List Expr}{te:TE}{t:TA}{pos:Pos}
theorem qJ:PA X [] aB7:=λ_ _ _ _ H Q I h=>Calls.spliced_nil ⟨[],H,I,.nil,h⟩
theorem iE(ha:PE X e te)(hr:PA X es t)(hs:starEach (e::es) X.env=(false,eval e X.env)::starEach es X.env:=by rfl):PA X (e::es) (LK te t):=by intro pos pins s σ H Q I h;rw [hs];show wpAny _ _ (spliced ((false,eval e X.env)::backTo pos (starEach es X.env))) _ _ s;refine Calls.spliced_cons (eS (ha pins s σ H _ I h) λu s1 ⟨x,H1,I1,r1,q1⟩=>?_);exact eS (hr pos pins s1 σ H1 _ I1 q1) λus s2 hq3=>by obtain ⟨xs,H2,I2,r2,q2⟩:=hq3; exact ⟨x::xs,H2,I2,.cons r1 r2,q2⟩
noncomputable def aHm(t:TA):TE:=λσ H Q=>t σ H λxs H1=>xs.length<=sizeLine /\ ∀ p,H1 p=none->Q (.ref p) (upd H1 p (.tup xs))
noncomputable def aHn(t:TA):TE:=λσ H Q=>t σ H λxs H1=>xs.length<=sizeLine /\ ∀ p,H1 p=none->Q (.ref p) (upd H1 p (.lst xs))
theorem aB8{x1}(h:PA X es t):PE X (.Tuple es x1 pos) (aHm t):=by intro pins s σ H Q I hq;refine wpAny_Tuple_spliced (eS (h pos pins s σ H _ I hq) λus s1 ⟨xs,H1,I1,r,z,q⟩=>⟨by rw [<- r.length]; exact z,?_⟩);have hf:H1 s1.heap.objs.size=none:=I1.hok.fresh (Nat.le_refl _);refine ⟨.ref s1.heap.objs.size,upd H1 s1.heap.objs.size (.tup xs),I1.laid (t':=s1.toks) (λb u e=>Heap.get?_push_of_some _ e) (Nat.le_refl _) ?_,rfl,q _ hf⟩;exact ⟨z,us,r,⟨_,Heap.get?_push_size _ rfl,rfl,_,rfl⟩,FD.new _ _⟩
theorem aB9(h:PA X es t):PE X (.List es pos) (aHn t):=by intro pins s σ H Q I hq;refine wpAny_List_spliced (eS (h pos pins s σ H _ I hq) λus s1 ⟨xs,H1,I1,r,z,q⟩=>⟨by rw [<- r.length]; exact z,?_⟩);have hf:H1 s1.heap.objs.size=none:=I1.hok.fresh (Nat.le_refl _);refine ⟨.ref s1.heap.objs.size,upd H1 s1.heap.objs.size (.lst xs),I1.laid (t':=s1.toks) (λb u e=>Heap.get?_push_of_some _ e) (Nat.le_refl _) ?_,rfl,q _ hf⟩;exact ⟨z,us,0,r,Heap.get?_push_size _ rfl⟩
end
noncomputable abbrev Sp:=List V->Hp->VK->XK->Prop
noncomputable abbrev QP:=List Env->Hp->Shared->XK->Value->Shared->Prop
structure YL (P:Program) (w:World) (K:PySem.W.Frag) (mg:Str->Option Value) (base:Heap) (A:Around) (outer:List Env) (s:Shared) (H:Hp):Prop where
 frames:A.frames=some outer
 mod:Mod K mg base
 bs:∀ b o,base.get? b=some o->s.heap.get? b=some o/\H b=none
 YA:base.objs.size<=s.heap.objs.size
 xZ:s.heap.FunFrames base outer
 frf:∀ b∈frs outer,H b=none
 hok:pT P w H s.heap
 bare:AllBare s.gens
 tab:X9 K base H
noncomputable def CE(outer:List Env)(P:Program)(w:World)(H:Hp)(s:Shared)(Q:VK)(u:Value)(s':Shared):Prop :=
 ∃ v H',s'.os=s.os/\AllBare s'.gens/\Un (frs outer) [] H H' s.heap s'.heap/\pT P w H' s'.heap/\RelV v u/\Q v H'
noncomputable def CR(CX:QP)(outer:List Env)(P:Program)(w:World)(H:Hp)(s:Shared)(Q:VK)(E:XK)(r:Result)(s':Shared):Prop :=
 match r with
 | .ok (.ret u)=>CE outer P w H s Q u s'
 | .ok _=>False
 | .error e=>CX outer H s E e s'
structure aQ (P:Program) (w:World) (K:PySem.W.Frag) (mg:Str->Option Value) (base:Heap) (CX:QP) (k:Nat) (f:Addr) (fd:FuncData) (ps:List Str) (sp:Sp):Prop where
 len:∀ vs H Q E,sp vs H Q E->vs.length=ps.length
 run:∀ (A:Around) (outer:List Env) (s:Shared) (H:Hp) (args:Args) (us:List Value) (vs:List V) (Q:VK) (E:XK),kB k A->YL P w K mg base A outer s H->BindsTo s fd args (ps.zip us)->Vals vs us->sp vs H Q E ->
  codeAny (model P w) A (.call (.ref f) args) (CR CX outer P w H s Q E) s
theorem aQ.mono{P:Program}{w:World}{K:PySem.W.Frag}{mg:Str->Option Value}{base:Heap}{CX:QP}{j k:Nat}{f:Addr}{fd:FuncData}{ps:List Str}{sp:Sp}(F:aQ P w K mg base CX j f fd ps sp)(h:j<=k) :
  aQ P w K mg base CX k f fd ps sp:=⟨F.len,λA outer s H args us vs Q E hr=>F.run A outer s H args us vs Q E (hr.mono h)⟩
section
variable{X:Cx}{pins:List (Addr×Obj)}{σ:St}{H:Hp}{s s':Shared}
theorem Inv.env0(I:Inv X pins σ H s):YL X.prog X.w X.K X.mg X.base X.A X.stack s H :=
 ⟨I.ok.frames,I.ok.mod,I.bs,Nat.le_trans I.ok.YA I.sz,I.stack,I.LB,I.hok,I.bare,I.tab⟩
theorem Inv.after{Q:VK}{u:Value}(I:Inv X pins σ H s)(h:CE X.stack X.prog X.w H s Q u s'):EP X pins σ Q u s':=by obtain ⟨v,H',os,bare,un,hok,r,q⟩:=h;obtain ⟨hh,g,d,t,os'⟩:=s';obtain rfl:os' = s.os:=os;exact ⟨v,H',I.call (h':=hh) (g':=g) (d':=d) (t':=t) (ch:=[]) un hok bare (λb z=>absurd z (by simp)),r,q⟩
end
noncomputable def aAP(sp:Sp)(dvs:List V)(E:XK)(t:TA):TE:=λσ H Q=>t σ H λvs H1=>sp (vs++dvs) H1 Q E
noncomputable def Binds(K:PySem.W.Frag)(fd:FuncData)(ps:List Str)(ds:List Value):Prop :=
 ∀ (s:Shared) (us:List Value),K.In s.heap->(us++ds).length=ps.length->BindsTo s fd ⟨us,[]⟩ (ps.zip (us++ds))
theorem Binds.all{K:PySem.W.Frag}{fd:FuncData}{ps:List Str}(h:∀ us:List Value,us.length=ps.length->bindArgs fd ⟨us,[]⟩=pure (ps.zip us)):Binds K fd ps []:=λs us _ hl=>by rw [append_nil] at hl ⊢;exact .of_eq (h us hl)
noncomputable def Passes(CX:QP)(X:Cx)(E:XK):Prop:=∀ (pins:List (Addr×Obj)) (σ:St) (H:Hp) (s:Shared) (e:Value) (s':Shared),Inv X pins σ H s->CX X.stack H s E e s'->X.xe e s'
section
variable{X:Cx}{CX:QP}{k:Nat}{f C:Addr}{fd:FuncData}{ps:List Str}{sp:Sp}{dvs:List V}{ds:List Value}{E:XK}{x m:Str}{p pos apos:Pos}{e o:Expr}{es:List Expr}{ta:TE}{t:TA}
theorem aBa{pins:List (Addr×Obj)}{σ:St}{H:Hp}{s:Shared}{Q:VK}{us:List Value}{vs:List V}(F:aQ X.prog X.w X.K X.mg X.base CX k f fd ps sp)(hr:kB k X.A)(hb:Binds X.K fd ps ds)(hd:Vals dvs ds)(hx:Passes CX X E)
  (I:Inv X pins σ H s) (r:Vals vs us) (h:sp (vs++dvs) H Q E):wpAny (model X.prog X.w) X.A (call (.ref f) us) (EP X pins σ Q) X.xe s:=by
 have r2:Vals (vs++dvs) (us++ds):=r.append hd;have hl:(us++ds).length=ps.length:=by rw [<- r2.length]; exact F.len _ _ _ _ h
 refine wpAny_call (codeAny_mono (F.run X.A X.stack s H ⟨us,[]⟩ (us++ds) (vs++dvs) Q E hr I.env0 (hb s us I.C6 hl) r2 h) λr s' hq=>?_)
 cases r with
 | error e=>exact hx pins σ H s e s' I hq
 | ok fl =>
  cases fl with
  | ret u=>exact I.after hq
  | next=>exact False.elim hq
  | brk=>exact False.elim hq
  | cont=>exact False.elim hq
theorem C9(F:aQ X.prog X.w X.K X.mg X.base CX k f fd ps sp)(hr:kB k X.A)(hg:Gl X x)(hm:X.mg x=some (.ref f))(hk:PySem.W.keepIn X.K (.ref f)=true)(hb:Binds X.K fd ps ds)(hd:Vals dvs ds)(hx:Passes CX X E)
  (ha:PA X (e::es) t) (hdb:(x == ("__debug__" : Str))=false:=by decide) (he:starEach (e::es) X.env=(false,eval e X.env)::starEach es X.env:=by rfl) (hpl:(backTo pos (starEach es X.env)).any (·.1)=false:=by rfl) :
  PE X (.Call (.Name x p) (e::es) [] pos) (aAP sp dvs E t):=by
 intro pins s σ H Q I h;refine wpAny_Call_Name_kw (YC I hg hm ?_ hdb);refine PySem.W.callWith_K (h₀:=X.base) I.ok.mod.kin hk (eS (ha pos pins s σ H _ I h) λus s1 ⟨vs,H1,I1,r,q⟩=>⟨I1.C6,?_⟩) he hpl;exact aBa F hr hb hd hx I1 r q
end
section
variable{X:Cx}{CX:QP}{k:Nat}{f C:Addr}{fd:FuncData}{ps ks:List Str}{sp:Sp}{E:XK}{x m:Str}{p pos apos kpos:Pos}{e o:Expr}{es:List Expr}{kws:List Keyword}{te ta:TE}{t tk:TA}{nm:Option Str}
structure aHo (K:PySem.W.Frag) (fd:FuncData) (ps ks:List Str) (g:List Value->List Value->List Value) (gV:List V->List V->List V):Prop where
 to:∀ (s:Shared) (us ws:List Value),K.In s.heap->(g us ws).length=ps.length->BindsTo s fd ⟨us,ks.zip ws⟩ (ps.zip (g us ws))
 rel:∀ {vs:List V} {us:List Value} {zs:List V} {ws:List Value},Vals vs us->Vals zs ws->Vals (gV vs zs) (g us ws)
variable{g:List Value->List Value->List Value}{gV:List V->List V->List V}
end
structure bD (N P:List Str) (sc:Scope):Prop where
 kind:sc.kind=.function
 co:sc.isCoroutine=false
 gen:sc.isGenerator=false
 nd:N.Nodup
 pre:N.take P.length=P
 par:∀ x∈P,sc.names.lookup x=some .local\/sc.names.lookup x=some .cell
 aBb:∀ y∈sc.names,y.2≠.free
theorem A3{kindOf:Str->Option NameKind}{x:Str}:∀ {binds:List (Str×Value)} {m:Str->Option Value},(∀ v,(x,v)∉binds)->bindL kindOf binds m x=m x
 | [],_,_=>rfl
 | (n,v)::r,m,h=>by
  unfold bindL;rw [A3 λw hw=>h w (mem_cons_of_mem _ hw)];split
  .have:x≠n:=by rintro rfl; exact h v mem_cons_self
   simp [this]
  .rfl
theorem A4{kindOf:Str->Option NameKind}{x:Str}:∀ {binds:List (Str×Value)} {m:Str->Option Value},(∀ v,(x,v)∉binds)->bindC kindOf binds m x=m x
 | [],_,_=>rfl
 | (n,v)::r,m,h=>by
  unfold bindC;rw [A4 λw hw=>h w (mem_cons_of_mem _ hw)];split
  .rfl
  .have:x≠n:=by rintro rfl; exact h v mem_cons_self
   simp [this]
theorem A5{kindOf:Str->Option NameKind}{x:Str}{v:Value}:∀ {P:List Str} {vs:List Value} {i:Nat} {m:Str->Option Value},P.Nodup->P[i]? = some x->vs[i]? = some v->kindOf x=some .local ->
  bindL kindOf (P.zip vs) m x=some v
 | [],_,_,_,_,h,_,_=>by simp at h
 | _::_,[],_,_,_,_,h,_=>by simp at h
 | p::P,w::vs,0,m,nd,h1,h2,hk=>by simp at h1 h2; subst h1; subst h2;show bindL kindOf ((p,w)::P.zip vs) m p=_;unfold bindL;rw [A3 λv hv=>(List.nodup_cons.mp nd).1 (of_mem_zip hv).1,if_pos hk];simp
 | p::P,w::vs,i+1,m,nd,h1,h2,hk=>by show bindL kindOf ((p,w)::P.zip vs) m x=_;unfold bindL;exact A5 (i:=i) (List.nodup_cons.mp nd).2 (by simpa using h1) (by simpa using h2) hk
theorem A6{kindOf:Str->Option NameKind}{x:Str}{v:Value}:∀ {P:List Str} {vs:List Value} {i:Nat} {m:Str->Option Value},P.Nodup->P[i]? = some x->vs[i]? = some v->kindOf x≠some .local ->
  bindC kindOf (P.zip vs) m x=some v
 | [],_,_,_,_,h,_,_=>by simp at h
 | _::_,[],_,_,_,_,h,_=>by simp at h
 | p::P,w::vs,0,m,nd,h1,h2,hk=>by simp at h1 h2; subst h1; subst h2;show bindC kindOf ((p,w)::P.zip vs) m p=_;unfold bindC;rw [A4 λv hv=>(List.nodup_cons.mp nd).1 (of_mem_zip hv).1,if_neg hk];simp
 | p::P,w::vs,i+1,m,nd,h1,h2,hk=>by show bindC kindOf ((p,w)::P.zip vs) m x=_;unfold bindC;exact A6 (i:=i) (List.nodup_cons.mp nd).2 (by simpa using h1) (by simpa using h2) hk
noncomputable def start(N:List Str)(vs:List V):St:=vs.map some++List.replicate (N.length - vs.length) none
noncomputable def DA(CX:QP)(P:Program)(w:World)(K:PySem.W.Frag)(mg:Str->Option Value)(base:Heap)(N:List Str)(qual:Str)(scope:Scope)(f:Addr)(cd:Value)(A:Around)(outer:List Env)(s:Shared)(H:Hp)(E:XK):Cx where
 prog:=P
 w:=w
 K:=K
 mg:=mg
 base:=base
 A:=A.deeper (envOfC qual scope s.heap.objs.size f cd)
 N:=N
 s₀:=s
 H₀:=H
 env:=envOfC qual scope s.heap.objs.size f cd
 outer:=outer
 stack:=envOfC qual scope s.heap.objs.size f cd::outer
 ex:=[]
 calm:=true
 fn:=λ_=>true
 pn:=[]
 xe:=λe s'=>wpAny (model P w) (A.deeper (envOfC qual scope s.heap.objs.size f cd)) (leaving (envOfC qual scope s.heap.objs.size f cd) e) (λ_ s''=>CX outer H s E e s'') (λe' s''=>CX outer H s E e' s'') s'
theorem FH{sc:Scope}{n:Nat}{x:Str}(h:sc.names.lookup x=some .cell):∃ c,(cellsFrom n sc.names []).lookup x=some c:=by have q:=PySem.W.cellsFrom_some sc.names n [] (.inl h);exact Option.isSome_iff_exists.mp q
theorem NS{CX:QP}{P:Program}{w:World}{K:PySem.W.Frag}{mg:Str->Option Value}{base:Heap}{N ps:List Str}{qual:Str}{scope:Scope}{f:Addr}{cd:Value}{A:Around}{outer:List Env}{s s1:Shared}{H:Hp}{E:XK}{us:List Value}{vs:List V}
  (S:bD N ps scope) (hd:A.handled=none) (e0:YL P w K mg base A outer s H) (hl:vs.length=ps.length) (r:Vals vs us)
  (x:InCallC s s.heap.objs.size (bindL (envOfC qual scope s.heap.objs.size f cd).kindOf (ps.zip us) λ_=>none) (cellsFrom (s.heap.objs.size+1) scope.names []) (bindC (envOfC qual scope s.heap.objs.size f cd).kindOf (ps.zip us) λ_=>none) s1) :
  Inv (DA CX P w K mg base N qual scope f cd A outer s H E) [] (start N vs) H s1:=by
 have hpl:ps.length<=N.length:=by have:=congrArg List.length S.pre; rw [length_take] at this; omega
 obtain ⟨h1,tk,rfl,hk⟩:=x.done;have noA:∀ b:Addr,b∉(DA CX P w K mg base N qual scope f cd A outer s H E).ex:=λb z=>absurd (show b∈([]:List Addr) from z) (by simp);refine ⟨⟨e0.mod,S.kind,rfl,rfl,Nat.le_refl _,λy z c h1 h2=>?_,λy hy=>?_,λy c _ h=>?_,λ_=>hd,Around.frames_deeper e0.frames,.inr ⟨rfl,rfl⟩,λb z=>absurd z (noA b),e0.bs,e0.YA,λb _ _=>noA b,λb z=>absurd z (noA b),e0.xZ,e0.frf,e0.tab⟩,
  rfl,e0.bare,Un.kept hk,⟨_,x.toInCall.ns,λi y v h1 h2 h3=>?_⟩,λy c h=>⟨_,x.cell y c h⟩,e0.hok.fresh (Nat.le_refl _),λy c h=>?_,λp hp=>absurd (show p∈([]:List (Addr×Obj)) from hp) (by simp),e0.hok.kept hk,?_⟩
 .exact name_of_addr x.apart (PySem.mem_of_lookup h1) (PySem.mem_of_lookup h2)
 .have hy:scope.names.lookup y=some .cell\/scope.names.lookup y=some .free:=hy;rcases hy with hy | hy
  .exact FH hy
  .exact absurd rfl (S.aBb _ (PySem.mem_of_lookup hy))
 .exact Nat.le_of_lt (x.above y c (PySem.mem_of_lookup h))
 .have hi:i<vs.length:=by
   unfold start at h2;by_cases hi:i<vs.length
   .exact hi
   .rw [getElem?_append_right (by simpa using hi)] at h2;rw [getElem?_replicate] at h2;split at h2<;>cases h2
  have ha:vs[i]? = some v:=by
   unfold start at h2;rw [getElem?_append_left (by simpa using hi),getElem?_map] at h2
   cases e:vs[i]? with
   | none=>rw [e] at h2; cases h2
   | some a=>rw [e] at h2; cases h2; rfl
  obtain ⟨u,hu,rv⟩:=r.get ha;have hp:ps[i]? = some y:=by rw [<- S.pre,List.getElem?_take_of_lt (by omega)]; exact h1
  have ndP:ps.Nodup:=by rw [<- S.pre]; exact S.nd.sublist (List.take_sublist _ _)
  refine ⟨u,rv,?_⟩;rcases S.par y (mem_of_getElem? hp) with k | k
  .exact .inl ⟨k,A5 ndP hp hu k⟩
  .obtain ⟨c,e⟩:=FH (n:=s.heap.objs.size+1) k;refine .inr ⟨.inl k,c,e,?_⟩;have q:=x.cell y c e;rw [A6 ndP hp hu (by show scope.names.lookup y≠_; rw [k]; decide)] at q;exact q
 .exact e0.hok.fresh (Nat.le_of_lt (x.above y c (PySem.mem_of_lookup h)))
 .unfold start;show _=N.length;rw [List.length_append,length_map,length_replicate];omega
theorem aDw{CX:QP}{P:Program}{w:World}{K:PySem.W.Frag}{mg:Str->Option Value}{base:Heap}{k:Nat}{f:Addr}{name qual:Str}{params:Arguments}{body:List Stmt}{scope:Scope}{dV kV doc pm cdv ct oc:Value}{an od:Option Addr}
  {osl:Array (Option Value)} {N ps:List Str} {sp:Sp} (lk:K.lookup f=some ⟨oc,od,.func (PySem.W.fnOf name qual params body scope dV kV doc pm an cdv ct),osl⟩) (hcd:PySem.W.codeIn K cdv qual=true) (S:bD N ps scope)
  (len:∀ vs H Q E,sp vs H Q E->vs.length=ps.length)
  (hbody:∀ (A:Around) (outer:List Env) (s:Shared) (H:Hp) (vs:List V) (Q:VK) (E:XK),kB k (A.deeper (envOfC qual scope s.heap.objs.size f cdv))->sp vs H Q E ->
   ∃ t,A2 (DA CX P w K mg base N qual scope f cdv A outer s H E) body t/\t { nx:=λ_ H'=>Q .non H',rt:=Q } (start N vs) H) :
  aQ P w K mg base CX (k+1) f (PySem.W.fnOf name qual params body scope dV kV doc pm an cdv ct) ps sp:=by
 refine ⟨len,λA outer s H args us vs Q E hr e0 hb r hsp=>?_⟩;have hl:=len _ _ _ _ hsp;have KX:K.In s.heap:=e0.mod.kin.keeps λb o e=>(e0.bs b o e).1;have lim:s.heap.NoLimit:=e0.mod.nolimit.keeps λb o e=>(e0.bs b o e).1;have hkind:∀ y∈ps.zip us,scope.names.lookup y.1=some .local\/(scope.names.lookup y.1=some .cell/\((cellsFrom (s.heap.objs.size+1) scope.names []).lookup y.1).isSome=true):=λ⟨n,v⟩ hy=>by
  rcases S.par n (of_mem_zip hy).1 with q | q
  .exact .inl q
  .exact .inr ⟨q,PySem.W.cellsFrom_some _ _ _ (.inl q)⟩
 refine codeAny_call_function hr.depth (KX _ _ lk) rfl S.co S.gen rfl (PySem.W.codeRec_of KX hcd) (hb _ _ _ _ ?_);refine wpAny_newFunctionEnv_cells S.kind hkind λenv he s1 x=>?_;subst he;refine ⟨lim.keeps x.toInCall.keep,codeAny_func ?_⟩;obtain ⟨t,ht,hq⟩:=hbody A outer s H vs Q E (hr.deeper _) hsp;have I:Inv (DA CX P w K mg base N qual scope f cdv A outer s H E) [] (start N vs) H s1:=NS S hr.hd e0 hl r x;refine wpAny_mono (ht [] s1 (start N vs) H _ I hq) (λfl s' hs=>?_) λe s' hs=>hs;have fin:∀ {σ':St} {H':Hp} {v:V} {u:Value},Inv (DA CX P w K mg base N qual scope f cdv A outer s H E) [] σ' H' s'->RelV v u->Q v H'->CE outer P w H s Q u s' :=
  λ{σ' H' v u} J rv q=>⟨v,H',J.os,J.bare,J.base,J.hok,rv,q⟩
 cases fl with
 | ret u =>
  obtain ⟨v,σ',H',J,rv,q⟩:=hs;exact fin J rv q
 | next =>
  obtain ⟨σ',H',J,q⟩:=hs;exact fin (v:=V.non) (u:=Value.none) J rfl q
 | brk =>
  obtain ⟨_,_,_,q⟩:=hs;exact False.elim q
 | cont =>
  obtain ⟨_,_,_,q⟩:=hs;exact False.elim q
end L2
namespace L2
open PySem PySem.Spec PyProof.Rows
section
variable{X:Cx}{x:Str}{p pos:Pos}{e:Expr}{es:List Expr}{t:TA}{id T:String}{r:List V->Hp->VK->Prop}
noncomputable def tCB(r:List V->Hp->VK->Prop)(t:TA):TE:=λσ H Q=>t σ H λvs H1=>r vs H1 Q
theorem n5(hc:fP X (.builtin id) r)(hg:Gl X x)(hm:X.mg x=none)(hv:bootBuiltins x=some (.builtin id))(ha:PA X (e::es) t)(hn:x ≠ "__name__" := by decide)(hdb:(x == ("__debug__" : Str))=false:=by decide)
  (he:starEach (e::es) X.env=(false,eval e X.env)::starEach es X.env:=by rfl) (hpl:(backTo pos (starEach es X.env)).any (·.1)=false:=by rfl):PE X (.Call (.Name x p) (e::es) [] pos) (tCB r t):=by
 intro pins s σ H Q I h;refine wpAny_Call_Name_kw (qH I hg hm hv ?_ hn hdb);exact PyProof.Rows.callWith_builtin1 (eS (ha pos pins s σ H _ I h) λus s1 ⟨vs,H1,I1,r1,q1⟩=>hc pins s1 σ H1 vs us Q I1 r1 q1) he hpl
theorem tN(hc:fP X (.type T) r)(hg:Gl X x)(hm:X.mg x=none)(hv:bootBuiltins x=some (.type T))(ha:PA X (e::es) t)(hn:x ≠ "__name__" := by decide)(hdb:(x == ("__debug__" : Str))=false:=by decide)
  (he:starEach (e::es) X.env=(false,eval e X.env)::starEach es X.env:=by rfl) (hpl:(backTo pos (starEach es X.env)).any (·.1)=false:=by rfl):PE X (.Call (.Name x p) (e::es) [] pos) (tCB r t):=by
 intro pins s σ H Q I h;refine wpAny_Call_Name_kw (qH I hg hm hv ?_ hn hdb);exact PyProof.Rows.callWith_type1 (eS (ha pos pins s σ H _ I h) λus s1 ⟨vs,H1,I1,r1,q1⟩=>hc pins s1 σ H1 vs us Q I1 r1 q1) he hpl
end
end L2
namespace HT
open PySem PyProof.Rows
section
open PySem.SeqAt
open PySem.AutoSeq1 (wpAny_loadPart')
open PySem.MeetsSeq PySem.MeetsSeq2 PySem.MeetsSeq3
end
section
variable{prog:Program}{w:World}{A:Around}{E:Value->Shared->Prop}{s:Shared}
theorem YM{t b:Addr}{vs ws:List Value}{Q:Value->Shared->Prop}(ht:IsTup s.heap t vs.toArray)(hb:IsTup s.heap b ws.toArray)(hv:vs≠[])
  (h1:ws=[]->Q (.ref t) s) (h2:ws≠[]->Q (.ref s.heap.objs.size) { s with heap:=s.heap.push { cls:=.type "tuple",data:=.seq (vs++ws).toArray } })
  (hsz:vs.length+ws.length<=sizeLine):wpAny (model prog w) A (binaryOp .Add (.ref t) (.ref b)) Q E s:=by
 obtain ⟨⟨cls,dd,data,sl⟩,ho,hc,n,hd⟩:=id ht;obtain ⟨⟨cls2,dd2,data2,sl2⟩,ho2,hc2,n2,hd2⟩:=id hb;simp only at hc hd hc2 hd2;subst hc hd hc2 hd2;have e:vs.toArray++ws.toArray=(vs++ws).toArray:=by simp
 by_cases hw:ws=[]
 .exact concat_meets ⟨_,ho,rfl⟩ ⟨_,ho2,rfl⟩ noFill_tuple_add seq_tuple_add PySem.F.slot_tuple_add PySem.F.entry_tuple_add (PySem.F.args_tuple_add_2 _ _)
   (tuple_addW1 t b vs.toArray ws.toArray n n2 dd dd2 sl sl2 (by simpa using hv) (by simp [hw])) ⟨ho,ho2,h1 hw⟩
 .refine concat_meets ⟨_,ho,rfl⟩ ⟨_,ho2,rfl⟩ noFill_tuple_add seq_tuple_add PySem.F.slot_tuple_add PySem.F.entry_tuple_add (PySem.F.args_tuple_add_2 _ _)
   (tuple_addW2 t b vs.toArray ws.toArray n n2 dd dd2 sl sl2 (by simpa using hv) (by simpa using hw) (by rw [size_toArray,size_toArray]; exact hsz)) ⟨ho,ho2,?_⟩
  rw [e];exact h2 hw
noncomputable def gF(n d:Nat):Option Int->Nat
 | none=>d
 | some v=>if v<0 then (v+(n:Int)).toNat else min v.toNat n
theorem aBd(n d:Nat)(hd:d<=n)(o:Option Int):gF n d o<=n:=by
 cases o with
 | none=>exact hd
 | some v =>
  show (if v<0 then (v+(n:Int)).toNat else min v.toNat n)<=n;by_cases hv:v<0
  .rw [if_pos hv]; omega
  .rw [if_neg hv]; exact Nat.min_le_right _ _
theorem LM(v:Int)(n d:Nat):(if v<0 then max (v+(n:Int)) 0 else min v (n:Int))=((gF n d (some v):Nat):Int):=by
 show (if v<0 then max (v+(n:Int)) 0 else min v (n:Int))=(((if v<0 then (v+(n:Int)).toNat else min v.toNat n):Nat):Int);by_cases hv:v<0
 .simp only [if_pos hv]; omega
 .simp only [if_neg hv]; omega
theorem IG(lo hi:Option Int)(n:Nat):Builtin.Slice.sliceAdjust lo hi 1 (n:Int)=(((gF n 0 lo:Nat):Int),((gF n n hi:Nat):Int)):=by
 have h1:¬ ((1:Int)<0):=by omega
 unfold Builtin.Slice.sliceAdjust;simp only [h1,if_false];refine Prod.ext ?_ ?_
 .cases lo with
  | none=>rfl
  | some v=>exact LM v n 0
 .cases hi with
  | none=>rfl
  | some v=>exact LM v n n
theorem IH(i j:Nat):Builtin.Slice.slicePlaces (i:Int) (j:Int) 1=j - i:=by
 unfold Builtin.Slice.slicePlaces;have h1:(1:Int)>0:=by omega
 simp only [h1,if_true,Int.ediv_one];split<;>omega
theorem yA{v:Value}{o:Option Int}{Q:Option Int->Shared->Prop}(p:IsPart v o)(h:Q o s):wpAny (model prog w) A (Builtin.Slice.slicePartIndex v) Q E s:=by
 cases p with
 | none=>exact slicePart_none h
 | int i t=>exact slicePart_int h
theorem lH{sl:Addr}{vl vu:Value}{lo hi:Option Int}{n:Nat}{Q:Int×Int×Nat->Shared->Prop}(hs:s.heap.IsSliceOf sl vl vu .none)(pl:IsPart vl lo)(pu:IsPart vu hi)
  (h:Q (((gF n 0 lo:Nat):Int),1,gF n n hi - gF n 0 lo) s):wpAny (model prog w) A (Builtin.Slice.sliceApplied (.ref sl) (pure (n:Int))) Q E s:=by
 obtain ⟨os,hos,hcs,hds⟩:=id hs;unfold Builtin.Slice.sliceApplied Builtin.Slice.sliceFields;refine wpAny_bind (wpAny_bind (wpAny_field hos hds (x:=vl) rfl (wpAny_bind (wpAny_field hos hds (x:=vu) rfl (wpAny_bind (wpAny_field hos hds (x:=.none) rfl (wpAny_pure ?_)))))));refine wpAny_bind (slicePart_none ?_);show wpAny _ _ (if ((1:Int) == 0)=true then _ else _) _ _ s;rw [if_neg (by decide)];refine wpAny_bind (yA pl (wpAny_bind (yA pu (wpAny_bind (wpAny_pure ?_)))));show wpAny _ _ (match Builtin.Slice.sliceAdjust lo hi 1 (n:Int) with | (lo,hi)=>pure (lo,(1:Int),Builtin.Slice.slicePlaces lo hi 1)) _ _ s;rw [IG lo hi n];show wpAny _ _ (pure (((gF n 0 lo:Nat):Int),(1:Int),Builtin.Slice.slicePlaces ((gF n 0 lo:Nat):Int) ((gF n n hi:Nat):Int) 1)) _ _ s;rw [IH];exact wpAny_pure h
theorem TB(xs:Array Value)(i k:Nat):((List.range k).filterMap λ(m:Nat)=>xs[((i:Int)+(m:Int)*1).toNat]?).toArray=((xs.toList.drop i).take k).toArray:=by
 have e:(λ(m:Nat)=>xs[((i:Int)+(m:Int)*1).toNat]?)=λm=>xs[i+m]?:=by
  funext m
  have:((i:Int)+(m:Int)*1).toNat=i+m:=by omega
  rw [this]
 rw [e];have:=pick_run xs i k;rw [List.filterMap_map] at this;have e2:((λx=>xs[x]?)∘λx=>i+x)=λm=>xs[i+m]?:=rfl;rw [e2] at this;rw [this]
theorem rW{t sl:Addr}{items:Array Value}{vl vu:Value}{lo hi:Option Int}{Q:Value->Shared->Prop}(ht:IsTup s.heap t items)(hs:s.heap.IsSliceOf sl vl vu .none)(pl:IsPart vl lo)(pu:IsPart vu hi)
  (hw:¬ (gF items.size 0 lo=0/\gF items.size items.size hi=items.size))
  (h:Q (.ref s.heap.objs.size) { s with heap:=s.heap.push { cls:=.type "tuple",data:=.seq ((items.toList.drop (gF items.size 0 lo)).take (gF items.size items.size hi - gF items.size 0 lo)).toArray } })
  (hsz:items.size<=sizeLine):wpAny (model prog w) A (getItem (.ref t) (.ref sl)) Q E s:=by
 have LN:sizeOk (.seq ((items.toList.drop (gF items.size 0 lo)).take (gF items.size items.size hi - gF items.size 0 lo)).toArray):=by show ((items.toList.drop (gF items.size 0 lo)).take (gF items.size items.size hi - gF items.size 0 lo)).toArray.size<=sizeLine;rw [size_toArray,length_take,length_drop,Array.length_toList];omega
 have hj:gF items.size items.size hi<=items.size:=aBd _ _ (Nat.le_refl _) hi;obtain ⟨os,hos,hcs,hds⟩:=id hs;have hTs:s.TypeIs (.ref sl) "slice" := ⟨os,hos,hcs⟩;unfold getItem
 try with_reducible refine wpAny_holding ?_
 first | refine wpAny_bind (wpAny_pure ?_) | skip
 refine wpAny_bind (wpAny_sequenceKey ht.typeIs (by decide) ?_);refine wpAny_bind (wpAny_callSpecial?_slot (name:=Str.ofString "__getitem__") ht.typeIs PyProof.Rows.slot_tuple_getitem
  (wpAny_call_entry PyProof.Rows.slot_tuple_getitem ht.typeIs entry_tuple_getitem ?_ (args_tuple_getitem _ _)))
 show wpAny _ _ (Builtin.Tuple.tupleItemsOf (.ref t) >>= _) _ _ s;refine wpAny_bind (tupleItemsOf_ ht ?_);refine wpAny_bind (wpAny_typeOf hTs ?_);rw [if_pos (by decide)];refine wpAny_bind (lH hs pl pu ?_);have hno:¬ ((((gF items.size 0 lo:Nat):Int) == 0&&(1:Int) == 1&&(gF items.size items.size hi - gF items.size 0 lo) == items.size)=true):=by intro q;rw [Bool.and_eq_true,Bool.and_eq_true] at q;have q1:((gF items.size 0 lo:Nat):Int)=0:=eq_of_beq q.1.1;have q2:gF items.size items.size hi - gF items.size 0 lo=items.size:=eq_of_beq q.2;exact hw ⟨by omega,by omega⟩
 show wpAny _ _ (if (((gF items.size 0 lo:Nat):Int) == 0&&(1:Int) == 1&&(gF items.size items.size hi - gF items.size 0 lo) == items.size)=true then _ else _) _ _ s;rw [if_neg hno,TB]
 first
  | exact wpAny_bind (m:=Builtin.Tuple.tupleExact _) (wpAny_newObj_type (wpAny_pure ⟨_,rfl,wpAny_pure h⟩) LN)
  | exact wpAny_bind (m:=Builtin.Tuple.tupleExact _) (wpAny_newObj_type (wpAny_bind (wpAny_pure (wpAny_pure ⟨_,rfl,wpAny_pure h⟩))) LN)
  | exact wpAny_bind (wpAny_bind (m:=Builtin.Tuple.tupleExact _) (wpAny_newObj_type (wpAny_pure (wpAny_pure ⟨_,rfl,wpAny_pure h⟩)) LN))
  | exact wpAny_bind (wpAny_bind (m:=Builtin.Tuple.tupleExact _) (wpAny_newObj_type (wpAny_pure ⟨_,rfl,wpAny_pure h⟩) LN))
end
end HT
namespace L2
open PySem PySem.Spec PyProof.Rows
noncomputable abbrev TO:=St->Hp->(Option Int->Hp->Prop)->Prop
noncomputable def PO(X:Cx)(e:Option Expr)(t:TO):Prop :=
 ∀ (pins:List (Addr×Obj)) (s:Shared) (σ:St) (H:Hp) (Q:Option Int->Hp->Prop),Inv X pins σ H s->t σ H Q ->
  wpAny (model X.prog X.w) X.A (evalPart e X.env) (λu s'=>∃ o H',Inv X pins σ H' s'/\IsPart u o/\Q o H') X.xe s
noncomputable def YN:TO:=λ_ H Q=>Q none H
noncomputable def aDx(t:TE):TO:=λσ H Q=>t σ H λx H1=>∃ i,x=.int i/\Q (some i) H1
theorem intsAre_of{ns:List Int}:∀ {us:List Value},Vals (ns.map V.int) us->IntsAre us ns:=by
 induction ns with
 | nil=>intro us r; rw [map_nil] at r; cases r; exact .nil
 | cons n ns ih =>
  intro us r;rw [map_cons] at r
  cases r with
  | cons r1 r2 =>
   obtain ⟨t,e⟩:=r1;subst e;exact .cons n t (ih r2)
section
variable{X:Cx}{e:Expr}{te:TE}{lo hi:Option Expr}{tl th:TO}{pos p2:Pos}
theorem YO:PO X none YN:=by intro pins s σ H Q I h;rw [evalPart_none];exact wpAny_pure ⟨none,H,I,.none,h⟩
theorem YQ(h:PE X e te):PO X (some e) (aDx te):=by intro pins s σ H Q I hw;rw [evalPart_some];refine eS (h pins s σ H _ I hw) λu s1 hq4=>?_;obtain ⟨x,H1,I1,r1,q1⟩:=hq4;obtain ⟨i,rfl,q⟩:=q1;obtain ⟨t,rfl⟩:=r1;exact ⟨some i,H1,I1,.int i t,q⟩
noncomputable def SlR(X:Cx)(r:V->Option Int->Option Int->Hp->VK->Prop):Prop :=
 ∀ (pins:List (Addr×Obj)) (s:Shared) (σ:St) (H:Hp) (x:V) (v vl vu:Value) (lo hi:Option Int) (sl:Addr) (Q:VK),Inv X pins σ H s->RelV x v->s.heap.IsSliceOf sl vl vu .none->IsPart vl lo->IsPart vu hi->r x lo hi H Q ->
  ∃ T id,typeLookup (.type T) "__getitem__" = pure (some (.builtin id))/\s.TypeIs v T/\wpAny (model X.prog X.w) X.A (getItem v (.ref sl)) (EP X pins σ Q) X.xe s
theorem SlR.or{r r':V->Option Int->Option Int->Hp->VK->Prop}(h:SlR X r)(h':SlR X r'):SlR X (λx lo hi H Q=>r x lo hi H Q\/r' x lo hi H Q):=by
 intro pins s σ H x v vl vu lo hi sl Q I rx hs pl pu q;rcases q with q | q
 .exact h pins s σ H x v vl vu lo hi sl Q I rx hs pl pu q
 .exact h' pins s σ H x v vl vu lo hi sl Q I rx hs pl pu q
noncomputable def tSl(r:V->Option Int->Option Int->Hp->VK->Prop)(te:TE)(tl th:TO):TE:=λσ H Q=>te σ H λx H1=>tl σ H1 λl H2=>th σ H2 λu H3=>r x l u H3 Q
theorem TC{r:V->Option Int->Option Int->Hp->VK->Prop}(hr:SlR X r)(he:PE X e te)(hl:PO X lo tl)(hu:PO X hi th):PE X (.Subscript e (.Slice lo hi none p2) pos) (tSl r te tl th):=by intro pins s σ H Q I h;refine Subscript_ (eS (he pins s σ H _ I h) λv s1 ⟨x,H1,I1,r1,q1⟩=>?_);refine wpAny_Slice (eS (hl pins s1 σ H1 _ I1 q1) λvl s2 ⟨l,H2,I2,pl,q2⟩=>eS (hu pins s2 σ H2 _ I2 q2) λvu s3 ⟨u,H3,I3,pu,q3⟩=>?_);rw [evalPart_none];refine wpAny_pure ?_;have I4:Inv X pins σ H3 { s3 with heap:=s3.heap.push { cls:=.type "slice",data:=.fields #[vl,vu,.none] } }:=I3.kept (t':=s3.toks) λb ob q=>Heap.get?_push_of_some _ q;obtain ⟨T,id,hT,ht,hg⟩:=hr pins { s3 with heap:=s3.heap.push { cls:=.type "slice",data:=.fields #[vl,vu,.none] } } σ H3 x v vl vu l u s3.heap.objs.size Q I4 r1 (Heap.IsSliceOf.new ..) pl pu q3;show wpAny (model X.prog X.w) X.A (subscriptTail e (.Slice lo hi none p2) v (.ref s3.heap.objs.size)) (EP X pins σ Q) X.xe { s3 with heap:=s3.heap.push { cls:=.type "slice",data:=.fields #[vl,vu,.none] } };exact tail_any (ops:=[.ref s3.heap.objs.size,v]) ht hT hg (by with_unfolding_all rfl)
noncomputable def FI(xs:List V)(lo hi:Option Int):List V:=(xs.drop (HT.gF xs.length 0 lo)).take (HT.gF xs.length xs.length hi - HT.gF xs.length 0 lo)
theorem uL(xs:List V)(lo hi:Option Int):(FI xs lo hi).length<=xs.length:=by unfold FI;rw [length_take,length_drop];omega
noncomputable def aHq(K:PySem.W.Frag):V->Option Int->Option Int->Hp->VK->Prop:=λx lo hi H Q=>∃ a xs,x=.ref a/\gR K H a xs /\
 ¬ (HT.gF xs.length 0 lo=0/\HT.gF xs.length xs.length hi=xs.length) /\ ∀ p,H p=none->Q (.ref p) (upd H p (.tup (FI xs lo hi)))
theorem aBe:SlR X (aHq X.K):=by
 intro pins s σ H x v vl vu lo hi sl Q I rx hs pl pu h;obtain ⟨a,xs,rfl,hx,hw,q⟩:=h;cases rx;obtain ⟨its,r,ht,hz⟩:=I.tuple hx;have hlen:its.toArray.size=xs.length:=by rw [size_toArray]; exact r.length.symm
 refine ⟨"tuple",_,PyProof.Rows.slot_tuple_getitem.lookup,ht.typeIs,?_⟩;refine HT.rW ht hs pl pu (by rw [hlen]; exact hw) ?_ (by rw [hlen]; exact hz);rw [hlen];refine ⟨.ref s.heap.objs.size,_,I.laid (t':=s.toks) (o:=.tup (FI xs lo hi)) (λb ob q=>Heap.get?_push_of_some _ q) (Nat.le_refl _) ?_,rfl,q _ (I.hok.fresh (Nat.le_refl _))⟩;exact ⟨Nat.le_trans (uL xs lo hi) hz,_,(r.drop (HT.gF xs.length 0 lo)).take (HT.gF xs.length xs.length hi - HT.gF xs.length 0 lo),IsTup.new _ _,FD.new _ _⟩
noncomputable def aDy(K:PySem.W.Frag):R2:=λx y H Q=>∃ a b xs ys,x=.ref a/\y=.ref b/\gR K H a xs/\gR K H b ys/\xs≠[]/\xs.length+ys.length<=sizeLine /\
 (ys=[]->Q (.ref a) H)/\(ys≠[] -> ∀ p,H p=none->Q (.ref p) (upd H p (.tup (xs++ys))))
theorem Vals.DB{xs:List V}{us:List Value}(r:Vals xs us):us=[]↔xs=[]:=by
 cases r with
 | nil=>simp
 | cons _ _=>simp
theorem YR:nC X (binaryOp .Add) (aDy X.K):=by intro pins s σ H x y v u Q I rx ry h;obtain ⟨a,b,xs,ys,rfl,rfl,ha,hb,hx,hz,q1,q2⟩:=h;cases rx;cases ry;obtain ⟨its,r1,p1,_⟩:=I.tuple ha;obtain ⟨its2,r2,p2,_⟩:=I.tuple hb;refine HT.YM p1 p2 (λz=>hx (r1.DB.mp z)) (λz=>⟨.ref a,H,I,rfl,q1 (r2.DB.mp z)⟩) (λz=>?_) (by rw [<- r1.length,<- r2.length]; exact hz);refine ⟨.ref s.heap.objs.size,_,I.laid (t':=s.toks) (o:=.tup (xs++ys)) (λb ob q=>Heap.get?_push_of_some _ q) (Nat.le_refl _) ?_,rfl,q2 (λw=>z (r2.DB.mpr w)) _ (I.hok.fresh (Nat.le_refl _))⟩;exact ⟨by rw [List.length_append]; exact hz,_,r1.append r2,IsTup.new _ _,FD.new _ _⟩
end
end L2
namespace L2
open PySem PySem.Spec PyProof.Rows
noncomputable def NT(n:Nat)(i:Int):Option Nat:=if 0<=i then (if i<n then some i.toNat else none) else if -(n:Int)<=i then some (i+n).toNat else none
noncomputable def vC{α:Type}(xs:List α)(i:Int):Option α:=(NT xs.length i).bind λj=>xs[j]?
theorem DC{n:Nat}{i:Int}{j:Nat}(h:NT n i=some j):seqIndex? i n=some j/\j<n /\ -(n:Int)<=i/\i<n:=by
 unfold NT at h;by_cases h0:0<=i
 .rw [if_pos h0] at h;by_cases h1:i<n
  .rw [if_pos h1] at h;have e:i.toNat=j:=Option.some.inj h;exact ⟨by rw [seqIndex_of h0 h1,e],by omega,by omega,h1⟩
  .rw [if_neg h1] at h; cases h
 .rw [if_neg h0] at h;by_cases h1:-(n:Int)<=i
  .rw [if_pos h1] at h;have e:(i+n).toNat=j:=Option.some.inj h;exact ⟨by rw [seqIndex_neg (by omega) h1,e],by omega,h1,by omega⟩
  .rw [if_neg h1] at h; cases h
theorem LO{α:Type}{xs:List α}{i:Int}{v:α}(h:vC xs i=some v):∃ j,seqIndex? i xs.length=some j/\xs[j]? = some v/\j<xs.length /\ -(xs.length:Int)<=i/\i<xs.length:=by
 unfold vC at h
 cases e:NT xs.length i with
 | none=>rw [e] at h; cases h
 | some j =>
  rw [e] at h;obtain ⟨h1,h2,h3,h4⟩:=DC e;exact ⟨j,h1,h,h2,h3,h4⟩
noncomputable def DD(b:Expr):Prop:=∀ o i,subscripted b false o i=operate [o,i] (getItem o i)
noncomputable def IxR(X:Cx)(r:R2):Prop :=
 ∀ (value slice:Expr) (pins:List (Addr×Obj)) (s:Shared) (σ:St) (H:Hp) (x y:V) (v u:Value) (Q:VK),Inv X pins σ H s->RelV x v->RelV y u->r x y H Q ->
  subscripted slice false v u=operate [v,u] (getItem v u)->wpAny (model X.prog X.w) X.A (subscriptTail value slice v u) (EP X pins σ Q) X.xe s
noncomputable def MtR(X:Cx)(id:String)(r:V->List V->Hp->VK->Prop):Prop :=
 ∀ (pins:List (Addr×Obj)) (s:Shared) (σ:St) (H:Hp) (x:V) (xs:List V) (v:Value) (us:List Value) (Q:VK),Inv X pins σ H s->RelV x v->Vals xs us->r x xs H Q ->
  wpAny (model X.prog X.w) X.A (call (.builtin id) (v::us)) (EP X pins σ Q) X.xe s
section
variable{X:Cx}{a b:Expr}{ta tb:TE}{pos:Pos}
theorem IxR.or{r r':R2}(h:IxR X r)(h':IxR X r'):IxR X (λx y H Q=>r x y H Q\/r' x y H Q):=by
 intro value slice pins s σ H x y v u Q I rx ry q hs;rcases q with q | q
 .exact h value slice pins s σ H x y v u Q I rx ry q hs
 .exact h' value slice pins s σ H x y v u Q I rx ry q hs
theorem aDz{r:R2}(hr:IxR X r)(ha:PE X a ta)(hb:PE X b tb)(hs:DD b):PE X (.Subscript a b pos) (tOp r ta tb):=by intro pins s σ H Q I h;exact Subscript_ (aBX ha hb I h λv u s2 x y H2 I2 rx ry q=>hr a b pins s2 σ H2 x y v u Q I2 rx ry q (hs _ _))
noncomputable def aEA(K:PySem.W.Frag):R2:=λx y H Q=>∃ p xs i v,x=.ref p/\y=.int i/\eO K H p xs/\vC xs i=some v/\Q v H
noncomputable def aEB(K:PySem.W.Frag):R2:=λx y H Q=>∃ p xs i v,x=.ref p/\y=.int i/\gR K H p xs/\vC xs i=some v/\Q v H
theorem YS:IxR X (aEA X.K):=by
 intro value slice pins s σ H x y v u Q I rx ry h hs;obtain ⟨p,xs,i,z,rfl,rfl,hq,he,q⟩:=h;cases rx;obtain ⟨t,rfl⟩:=ry;obtain ⟨its,r,pl,hz⟩:=I.list hq;obtain ⟨j,h1,h2,h3,h4,h5⟩:=LO he;obtain ⟨w,ew,II⟩:=r.get h2;have hl:=r.length;have hn:=x9;have fin:EP X pins σ Q w s:=⟨z,H,I,II,q⟩;by_cases h0:0<=i
 .have hj:i.toNat=j:=by rw [seqIndex_of h0 h5] at h1;exact Option.some.inj h1
  exact item_listR pl.isList h0 (by omega) (by rw [hj]; simpa using ew) fin hs
 .have hj:(i+(its.toArray.size:Int)).toNat=j:=by rw [seqIndex_neg (by omega) h4] at h1;rw [size_toArray,<- hl];exact Option.some.inj h1
  exact subscriptTail_builtinR (x:=w) pl.isList.typeIs slot_list_getitem.lookup
   (wpAny_getItem_list_neg (Q:=λr s'=>r=w/\EP X pins σ Q r s') pl.isList (by omega) (by rw [size_toArray]<;>omega) (by omega) (by rw [hj]; simpa using ew) ⟨rfl,fin⟩) hs
theorem aBg:IxR X (aEB X.K):=by
 intro value slice pins s σ H x y v u Q I rx ry h hs;obtain ⟨p,xs,i,z,rfl,rfl,hq,he,q⟩:=h;cases rx;obtain ⟨t,rfl⟩:=ry;obtain ⟨its,r,pl,hz⟩:=I.tuple hq;obtain ⟨j,h1,h2,h3,h4,h5⟩:=LO he;obtain ⟨w,ew,II⟩:=r.get h2;have hl:=r.length;have hn:=x9;have fin:EP X pins σ Q w s:=⟨z,H,I,II,q⟩;exact subscriptTail_builtinR (x:=w) pl.typeIs slot_tuple_getitem.lookup
  (getItem_tuple (j:=j) (Q:=λr s'=>r=w/\EP X pins σ Q r s') pl (by omega) (by omega) (by rw [size_toArray,<- hl]; exact h1) (by simpa using ew) ⟨rfl,fin⟩) hs
theorem IJ(its:List Value)(n j:Nat)(u:Value):Obj.mapSeq (·.setIfInBounds j u) { cls:=.type "list",data:=.seq its.toArray n }={ cls:=.type "list",data:=.seq (its.set j u).toArray n }:=by simp [Obj.mapSeq]
theorem Inv.lst{pins:List (Addr×Obj)}{σ:St}{H:Hp}{s:Shared}{p:Addr}{xs:List V}(I:Inv X pins σ H s)(h:H p=some (.lst xs)) :
  ∃ (its:List Value) (n:Nat),Vals xs its/\s.heap.get? p=some { cls:=.type "list",data:=.seq its.toArray n }/\xs.length<=sizeLine:=by
 obtain ⟨z,its,n,r,e⟩:=I.hok p _ h;exact ⟨its,n,r,e,z⟩
theorem Inv.aBh{pins:List (Addr×Obj)}{σ:St}{H:Hp}{s:Shared}{p:Addr}{xs ys:List V}{its its':List Value}{n n':Nat}{f:Obj->Obj}(I:Inv X pins σ H s)(h:H p=some (.lst xs))
  (ho:s.heap.get? p=some { cls:=.type "list",data:=.seq its.toArray n }) (hf:f { cls:=.type "list",data:=.seq its.toArray n }={ cls:=.type "list",data:=.seq its'.toArray n' }) (r:Vals ys its') (hz:ys.length<=sizeLine) (t:Nat) :
  Inv X pins σ (upd H p (.lst ys)) { s with heap:=s.heap.update p f,toks:=t }:=by
 have e:(s.heap.update p f).get? p=some { cls:=.type "list",data:=.seq its'.toArray n' }:=by rw [Heap.get?_update_self f ho (by rw [hf]<;>rfl),hf]
 refine I.write (x:=p) (e:=p) (by rw [h]; trivial) (.inl rfl) (λb u hb q=>(Heap.get?_update_other _ _ (Ne.symm hb)).trans q) ⟨_,e⟩ ?_;exact ⟨hz,its',n',r,e⟩
noncomputable def TH:V->V->V->Hp->(Hp->Prop)->Prop:=λo i v H Q=>∃ p xs k j,o=.ref p/\i=.int k/\H p=some (.lst xs)/\NT xs.length k=some j/\Q (upd H p (.lst (xs.set j v)))
theorem set_list:aDj X TH:=by
 intro pins s σ H o i v ov iv u Q I ro ri rv h;obtain ⟨p,xs,k,j,rfl,rfl,hp,hj,q⟩:=h;cases ro;obtain ⟨t,rfl⟩:=ri;obtain ⟨its,n,r,ho,hz⟩:=I.lst hp;obtain ⟨h1,h2,h3,h4⟩:=DC hj;have hl:=r.length;have hn:=x9;have I':Inv X pins σ (upd H p (.lst (xs.set j v))) { s with heap:=s.heap.update p (Obj.mapSeq (·.setIfInBounds j u)) } :=
  I.aBh hp ho (IJ its n j u) (r.set rv j) (by rw [length_set]; exact hz) s.toks
 by_cases h0:0<=k
 .have hk:k.toNat=j:=by rw [seqIndex_of h0 h4] at h1;exact Option.some.inj h1
  exact PySem.W.ki_setAt ho h0 (by omega) (by rw [size_toArray,<- hl]; exact h4) (by rw [hk]; exact ⟨_,I',q⟩)
 .have hk:(k+(its.toArray.size:Int)).toNat=j:=by rw [seqIndex_neg (by omega) h3] at h1;rw [size_toArray,<- hl];exact Option.some.inj h1
  exact PySem.W.ki_setBack ho (by omega) (by rw [size_toArray,<- hl]; exact h3) (by omega) (by rw [hk]; exact ⟨_,I',q⟩)
theorem DF(lo hi:Option Int)(n:Nat):(sliceBounds lo hi none n).1=((HT.gF n 0 lo:Nat):Int)/\(sliceBounds lo hi none n).2.1=((HT.gF n n hi:Nat):Int)/\(sliceBounds lo hi none n).2.2=1:=by
 refine ⟨?_,?_,rfl⟩
 .cases lo with
  | none=>simp [sliceBounds,HT.gF]
  | some i =>
   simp only [sliceBounds,HT.gF,Option.getD_none,show (1:Int)>0 by decide,if_true];by_cases h:i<0
   .simp only [h,if_true]<;>omega
   .simp only [h,if_false]<;>omega
 .cases hi with
  | none=>simp [sliceBounds,HT.gF]
  | some i =>
   simp only [sliceBounds,HT.gF,Option.getD_none,show (1:Int)>0 by decide,if_true];by_cases h:i<0
   .simp only [h,if_true]<;>omega
   .simp only [h,if_false]<;>omega
theorem zQ(its:List Value)(lo hi:Option Int):slicePick its.toArray lo hi none=((its.drop (HT.gF its.length 0 lo)).take (HT.gF its.length its.length hi - HT.gF its.length 0 lo)).toArray:=by obtain ⟨h1,h2,h3⟩:=DF lo hi its.toArray.size;unfold slicePick;rw [h1,h2,h3];simp only [sliceRange_one,pick_run,size_toArray]<;>rfl
noncomputable def aHs(K:PySem.W.Frag):V->Option Int->Option Int->Hp->VK->Prop:=λx lo hi H Q=>∃ a xs,x=.ref a/\eO K H a xs /\ ∀ p,H p=none->Q (.ref p) (upd H p (.lst (FI xs lo hi)))
theorem YT:SlR X (aHs X.K):=by intro pins s σ H x v vl vu lo hi sl Q I rx hs pl pu h;obtain ⟨a,xs,rfl,hx,q⟩:=h;cases rx;obtain ⟨its,r,ht,hz⟩:=I.list hx;have hlen:=r.length;refine ⟨"list",_,slot_list_getitem.lookup,ht.isList.typeIs,?_⟩;refine wpAny_getItem_list_slice ht.isList hs pl pu .none (by simp) ?_ (by rw [size_toArray]<;>omega);rw [zQ,<- hlen];refine ⟨.ref s.heap.objs.size,_,I.laid (t':=s.toks) (o:=.lst (FI xs lo hi)) (λb ob q=>Heap.get?_push_of_some _ q) (Nat.le_refl _) ?_,rfl,q _ (I.hok.fresh (Nat.le_refl _))⟩;exact ⟨Nat.le_trans (uL xs lo hi) hz,_,0,(r.drop (HT.gF xs.length 0 lo)).take (HT.gF xs.length xs.length hi - HT.gF xs.length 0 lo),Heap.get?_push_size _ rfl⟩
noncomputable def rX:V->Bool
 | .non=>true
 | .bl _=>true
 | .int _=>true
 | .str _=>true
 | _=>false
noncomputable def eqV:V->V->Bool
 | .non,.non=>true
 | .bl a,.bl b=>a == b
 | .bl a,.int b=>(if a then 1 else 0) == b
 | .int a,.bl b=>a == (if b then 1 else 0)
 | .int a,.int b=>a == b
 | .str a,.str b=>a == b
 | _,_=>false
theorem aBi{A:Around}{s:Shared}{y x:V}{u v:Value}(ry:RelV y u)(rx:RelV x v)(fy:rX y=true)(fx:rX x=true):SeqAt.EqAt A s u v (eqV y x):=by
 cases y with
 | non =>
  cases ry
  cases x with
  | non=>cases rx; exact SeqAt.EqAt.same _
  | bl b=>cases rx; exact SeqAt.EqAt.none_bool b
  | int b=>obtain ⟨t,rfl⟩:=rx; exact SeqAt.EqAt.none_int b t
  | str b=>obtain ⟨t,rfl⟩:=rx; exact SeqAt.EqAt.none_str b t
  | _=>exact absurd (show false=true from fx) Bool.false_ne_true
 | bl a =>
  cases ry
  cases x with
  | non=>cases rx; exact SeqAt.EqAt.bool_none a
  | bl b=>cases rx; exact SeqAt.EqAt.bool_bool a b
  | int b=>obtain ⟨t,rfl⟩:=rx; exact SeqAt.EqAt.bool_int a b t
  | str b=>obtain ⟨t,rfl⟩:=rx; exact SeqAt.EqAt.bool_str a b t
  | _=>exact absurd (show false=true from fx) Bool.false_ne_true
 | int a =>
  obtain ⟨t',rfl⟩:=ry
  cases x with
  | non=>cases rx; exact SeqAt.EqAt.int_none a t'
  | bl b=>cases rx; exact SeqAt.EqAt.int_bool a t' b
  | int b=>obtain ⟨t,rfl⟩:=rx; exact SeqAt.EqAt.int_int a t' b t
  | str b=>obtain ⟨t,rfl⟩:=rx; exact SeqAt.EqAt.int_str a t' b t
  | _=>exact absurd (show false=true from fx) Bool.false_ne_true
 | str a =>
  obtain ⟨t',rfl⟩:=ry
  cases x with
  | non=>cases rx; exact SeqAt.EqAt.str_none a t'
  | bl b=>cases rx; exact SeqAt.EqAt.str_bool a t' b
  | int b=>obtain ⟨t,rfl⟩:=rx; exact SeqAt.EqAt.str_int a t' b t
  | str b=>obtain ⟨t,rfl⟩:=rx; exact SeqAt.EqAt.str_str a t' b t
  | _=>exact absurd (show false=true from fx) Bool.false_ne_true
 | _=>exact absurd (show false=true from fy) Bool.false_ne_true
noncomputable def IK(x:V)(u:Value):Bool:=match u with
 | .none=>eqV .non x
 | .bool b=>eqV (.bl b) x
 | .int i _=>eqV (.int i) x
 | .str z _=>eqV (.str z) x
 | _=>false
theorem TJ{x y:V}{u:Value}(r:RelV y u)(f:rX y=true):IK x u=eqV y x:=by
 cases y with
 | non=>cases r; rfl
 | bl b=>cases r; rfl
 | int i=>obtain ⟨t,rfl⟩:=r; rfl
 | str z=>obtain ⟨t,rfl⟩:=r; rfl
 | _=>exact absurd (show false=true from f) Bool.false_ne_true
theorem rY{x:V}:∀ {xs:List V} {us:List Value},Vals xs us->xs.all rX=true->us.any (IK x)=xs.any λy=>eqV y x
 | _,_,.nil,_=>rfl
 | y::xs,u::us,.cons r t,f=>by rw [all_cons,Bool.and_eq_true] at f;rw [any_cons,any_cons,TJ r f.1,rY t f.2]
theorem n6{A:Around}{s:Shared}{x:V}{v:Value}(rx:RelV x v)(fx:rX x=true):∀ {xs:List V} {us:List Value},Vals xs us->xs.all rX=true -> ∀ u∈us,SeqAt.EqAt A s u v (IK x u)
 | _,_,.nil,_=>λu hu=>by cases hu
 | y::xs,u::us,.cons r t,f=>λu' hu=>by
  rw [all_cons,Bool.and_eq_true] at f;rcases List.mem_cons.mp hu with rfl | hu
  .rw [TJ r f.1]; exact aBi r rx f.1 fx
  .exact n6 rx fx t f.2 u' hu
noncomputable def inV(x:V)(xs:List V):Bool:=xs.any λy=>eqV y x
noncomputable def rIn(K:PySem.W.Frag)(neg:Bool):R2:=λx y H Q=>∃ p xs,y=.ref p/\(eO K H p xs\/gR K H p xs)/\rX x=true/\xs.all rX=true/\Q (.bl (if neg then !inV x xs else inV x xs)) H
theorem NU:nC X (compareOp .In) (rIn X.K false):=by
 intro pins s σ H x y v u Q I rx ry h;obtain ⟨p,xs,rfl,hq,fx,fs,q⟩:=h;cases ry;rcases hq with hq | hq
 .obtain ⟨its,r,pl,hz⟩:=I.list hq;refine SeqAt.in_listAt (IK x) pl.isList (λw hw=>n6 rx fx r fs w (by simpa using hw)) ⟨.bl _,H,I,rfl,?_⟩;rw [show its.toArray.any (IK x)=its.any (IK x) by simp,rY r fs];exact q
 .obtain ⟨its,r,pl,hz⟩:=I.tuple hq;refine SeqAt.in_tupleAt (IK x) pl (λw hw=>n6 rx fx r fs w (by simpa using hw)) ⟨.bl _,H,I,rfl,?_⟩;rw [show its.toArray.any (IK x)=its.any (IK x) by simp,rY r fs];exact q
theorem DG:nC X (compareOp .NotIn) (rIn X.K true):=by
 intro pins s σ H x y v u Q I rx ry h;obtain ⟨p,xs,rfl,hq,fx,fs,q⟩:=h;cases ry;rcases hq with hq | hq
 .obtain ⟨its,r,pl,hz⟩:=I.list hq;refine SeqAt.notIn_listAt (IK x) pl.isList (λw hw=>n6 rx fx r fs w (by simpa using hw)) ⟨.bl _,H,I,rfl,?_⟩;rw [show its.toArray.any (IK x)=its.any (IK x) by simp,rY r fs];exact q
 .obtain ⟨its,r,pl,hz⟩:=I.tuple hq;refine SeqAt.notIn_tupleAt (IK x) pl (λw hw=>n6 rx fx r fs w (by simpa using hw)) ⟨.bl _,H,I,rfl,?_⟩;rw [show its.toArray.any (IK x)=its.any (IK x) by simp,rY r fs];exact q
theorem DH:fP X (.builtin "len") (λxs H Q=>∃ p ys,xs=[.ref p]/\(eO X.K H p ys\/gR X.K H p ys)/\Q (.int ys.length) H):=by
 intro pins s σ H xs us Q I r h;obtain ⟨p,ys,rfl,hq,q⟩:=h;obtain ⟨u,rfl,rx⟩:=vals1 r;cases rx;have hn:=x9;rcases hq with hq | hq
 .obtain ⟨its,r',pl,hz⟩:=I.list hq;have hlen:=r'.length;exact Calls.call_len_list pl.isList (by simp only [size_toArray]<;>omega) ⟨.int ys.length,H,I.tok _,⟨s.toks+1,by rw [size_toArray,hlen]⟩,q⟩
 .obtain ⟨its,r',pl,hz⟩:=I.tuple hq;have hlen:=r'.length;exact len_tuple pl (by simp only [size_toArray]<;>omega) ⟨.int ys.length,H,I.tok _,⟨s.toks+1,by rw [size_toArray,hlen]⟩,q⟩
theorem zR:fP X (.type "tuple") (λxs H Q=>∃ p ys,xs=[.ref p]/\((eO X.K H p ys /\ ∀ l,H l=none->Q (.ref l) (upd H l (.tup ys)))\/(gR X.K H p ys/\Q (.ref p) H))):=by
 intro pins s σ H xs us Q I r h;obtain ⟨p,ys,rfl,h⟩:=h;obtain ⟨u,rfl,rx⟩:=vals1 r;cases rx;rcases h with ⟨hq,q⟩ | ⟨hq,q⟩
 .obtain ⟨its,r',pl,hz⟩:=I.list hq;have hlen:=r'.length;refine call_tuple_list pl.isList (λh' kp=>?_) (by simp only [size_toArray]<;>omega);have I1:Inv X pins σ H { s with heap:=h' }:=I.kept (t':=s.toks) kp;have I2:Inv X pins σ (upd H h'.objs.size (.tup ys)) { s with heap:=h'.push { cls:=.type "tuple",data:=.seq its.toArray } } :=
   I1.laid (t':=s.toks) (λb o e=>Heap.get?_push_of_some _ e) (Nat.le_refl _) (show dJ X.prog X.w _ _ _ (.tup ys) from ⟨hz,its,r',IsTup.new _ _,FD.new _ _⟩)
  exact ⟨.ref h'.objs.size,_,I2,rfl,q _ (I1.hok.fresh (Nat.le_refl _))⟩
 .obtain ⟨its,r',pl,hz⟩:=I.tuple hq;exact call_tuple_same pl ⟨.ref p,H,I,rfl,q⟩
noncomputable def tyV(K:PySem.W.Frag)(T:String)(x:V)(H:Hp):Prop:=match x with
 | .str _=>T = "str"
 | .int _=>T = "int"
 | .ref p=>(T = "list" /\ ∃ xs,eO K H p xs)\/(T = "tuple" /\ ∃ o,K.lookup p=some o/\o.cls=.type "tuple" /\ o.dict=none) \/
   (T = "dict" /\ ((∃ kvs,H p=some (.dK kvs)) \/ ∃ kvs,H p=some (.dT kvs)))\/(T = "set" /\ ∃ S n,H p=some (.set S n))\/(T = "tuple" /\ ∃ xs,H p=some (.tup xs))
 | _=>False
theorem aBj{pins:List (Addr×Obj)}{σ:St}{H:Hp}{s:Shared}{T:String}{x:V}{v:Value}(I:Inv X pins σ H s)(r:RelV x v)(ty:tyV X.K T x H) :
  s.TypeIs v T /\ ∀ a,v=.ref a -> ∃ ob,s.heap.get? a=some ob/\ob.dict=none:=by
 cases x with
 | str z =>
  obtain ⟨t,rfl⟩:=r;cases (show T = "str" from ty);exact ⟨typeIs_str s z t,λ_ e=>nomatch e⟩
 | int i =>
  obtain ⟨t,rfl⟩:=r;cases (show T = "int" from ty);exact ⟨typeIs_int s i t,λ_ e=>nomatch e⟩
 | ref p =>
  cases r;rcases ty with ⟨rfl,xs,hq⟩ | ⟨rfl,o,hk,hc,hd⟩ | ⟨rfl,hk⟩ | ⟨rfl,S,n,hk⟩ | ⟨rfl,xs,hk⟩
  .obtain ⟨its,_,pl,_⟩:=I.list hq;refine ⟨pl.isList.typeIs,λa e=>?_⟩;cases e;obtain ⟨o,n,e,c,hd,_⟩:=pl;exact ⟨o,e,hd⟩
  .refine ⟨⟨o,I.C6 p o hk,hc⟩,λa e=>?_⟩;cases e;exact ⟨o,I.C6 _ o hk,hd⟩
  .have z:∃ o,s.heap.get? p=some o/\o.ExactDict:=by
    rcases hk with ⟨kvs,hk⟩ | ⟨kvs,hk⟩
    .obtain ⟨_,_,_,_,o,_,_,e,ex,_⟩:=I.hok p _ hk;exact ⟨o,e,ex⟩
    .obtain ⟨_,_,_,_,o,_,_,e,ex,_⟩:=I.hok p _ hk;exact ⟨o,e,ex⟩
   obtain ⟨o,e,ex⟩:=z;refine ⟨⟨o,e,ex.1⟩,λa e2=>?_⟩;cases e2;exact ⟨o,e,ex.2.1⟩
  .obtain ⟨o,_,_,_,e,ex,_⟩:=I.hok p _ hk;refine ⟨⟨o,e,ex.1⟩,λa e2=>?_⟩;cases e2;exact ⟨o,e,ex.2.1⟩
  .obtain ⟨_,_,_,⟨o,e,c,_⟩,nd⟩:=I.hok p _ hk;refine ⟨⟨o,e,c⟩,λa e2=>?_⟩;cases e2;exact ⟨o,e,nd _ e⟩
 | _=>exact False.elim ty
noncomputable def tBM(K:PySem.W.Frag)(T:String)(r:V->List V->Hp->VK->Prop)(to:TE)(t:TA):TE:=λσ H Q=>to σ H λx H1=>tyV K T x H1/\t σ H1 λxs H2=>r x xs H2 Q
variable{o e:Expr}{es:List Expr}{to:TE}{t:TA}{name:Str}{apos cpos:Pos}{T id:String}{r:V->List V->Hp->VK->Prop}
theorem aAT(pa:PlainAttrs T)(slot:Slot T name id)(hty:typeOf (.builtin id)=pure (.type "method_descriptor"))(hm:MtR X id r)(ho:PE X o to)(ha:PA X (e::es) t)
  (hbase:attributeBase o name X.env (eval o X.env)=eval o X.env:=by rfl)
  (hfew:((backTo cpos (starEach (e::es) X.env)).all (λx=>!x.1)&&(backToKw cpos (keywordEach [] X.env)).all (λx=>x.1.isSome)
   && decide ((e::es).length+([]:List Keyword).length+(if ([]:List Keyword).isEmpty then 0 else 1)<30))=true:=by rfl)
  (hline:(apos.endLine == cpos.line)=true:=by rfl) (hs:starEach (e::es) X.env=(false,eval e X.env)::starEach es X.env:=by rfl) (hplain:(backTo cpos (starEach es X.env)).any (·.1)=false:=by rfl) :
  PE X (.Call (.Attribute o name apos) (e::es) [] cpos) (tBM X.K T r to t):=by
 intro pins s σ H Q I h;refine wpAny_Call_method_late hbase hfew hline rfl (eS (ho pins s σ H _ I h) λv s1 ⟨x,H1,I1,r1,ty,q1⟩=>?_);obtain ⟨h1,h2⟩:=aBj I1 r1 ty;refine ⟨T,id,pa,slot,hty,h1,h2,?_⟩;have hA:=ha cpos pins s1 σ H1 _ I1 q1;rw [hs] at hA ⊢;refine Calls.callWith_builtin (by show (false||(backTo cpos (starEach es X.env)).any (·.1))=false; rw [hplain]<;>rfl) (Calls.evalArgs_plain ?_);exact eS hA λus s2 hq5=>by obtain ⟨vs,H2,I2,r2,q2⟩:=hq5; exact hm pins s2 σ H2 x vs v us Q I2 r1 r2 q2
end
end L2
namespace L2
open PySem PySem.Spec PyProof.Rows
noncomputable def MtM(X:Cx)(id:String)(r:V->List V->Hp->VK->Prop):Prop :=
 ∀ (pins:List (Addr×Obj)) (s:Shared) (σ:St) (H:Hp) (x:V) (xs:List V) (v:Value) (us:List Value) (Q:VK),Inv X pins σ H s->RelV x v->Vals xs us->r x xs H Q ->
  wpAny (model X.prog X.w) X.A (call (.builtin id) (v::us)) (EP X pins σ Q) X.xe s
theorem Vals.one:∀ {x:V} {us:List Value},Vals [x] us -> ∃ u,us=[u]/\RelV x u
 | _,_,.cons r .nil=>⟨_,rfl,r⟩
theorem Vals.eraseIdx:∀ {xs:List V} {us:List Value} (i:Nat),Vals xs us->Vals (xs.eraseIdx i) (us.eraseIdx i)
 | _,_,_,.nil=>.nil
 | _,_,0,.cons _ t=>t
 | _,_,i+1,.cons r t=>.cons r (Vals.eraseIdx i t)
theorem Vals.rep{xs:List V}{us:List Value}(h:Vals xs us):∀ k:Nat,Vals (List.replicate k xs).flatten (List.replicate k us).flatten
 | 0=>.nil
 | k+1=>by rw [replicate_succ,replicate_succ,flatten_cons,flatten_cons];exact Vals.append h (Vals.rep h k)
theorem A7{α:Type}:∀ (l:List α) (i:Nat),(l.eraseIdx i).length<=l.length
 | [],_=>Nat.le_refl _
 | _::_,0=>Nat.le_succ _
 | _::r,i+1=>Nat.succ_le_succ (A7 r i)
theorem foldl_rep(its:List Value):∀ (k:Nat) (acc:List Value),
  List.foldl (λx1 x2=>x1++x2) acc.toArray (List.replicate k its.toArray)=(acc++(List.replicate k its).flatten).toArray
 | 0,acc=>by simp
 | k+1,acc=>by
  have e:acc.toArray++its.toArray=(acc++its).toArray:=by simp
  have e2:(acc++its)++(List.replicate k its).flatten=acc++(List.replicate (k+1) its).flatten:=by rw [replicate_succ,flatten_cons,List.append_assoc]
  rw [<- e2,<- foldl_rep its k (acc++its),<- e,replicate_succ,foldl_cons]
section
variable{X:Cx}{pins:List (Addr×Obj)}{σ:St}{H:Hp}{s:Shared}{l b:Addr}{xs ys zs:List V}
theorem Inv.YU{its its':List Value}{n:Nat}{f:Array Value->Array Value}{t':Nat}(I:Inv X pins σ H s)(hH:H l=some (.lst xs))
  (e:s.heap.get? l=some { cls:=.type "list",data:=.seq its.toArray n }) (hf:f its.toArray=its'.toArray) (hv:Vals ys its') (hz:ys.length<=sizeLine) :
  Inv X pins σ (upd H l (.lst ys)) { s with heap:=s.heap.update l (Obj.mapSeq f),toks:=t' }:=by
 have q:=PySem.IsL.update e f;rw [hf] at q;refine I.write (x:=l) (e:=l) (by rw [hH]; exact trivial) (.inl rfl) (λb' u hb hu=>(Heap.get?_update_other s.heap (Obj.mapSeq f) (Ne.symm hb)).trans hu) ⟨_,q⟩ ?_;exact ⟨hz,its',_,hv,q⟩
theorem Inv.aEC{its:List Value}{t':Nat}(I:Inv X pins σ H s)(hv:Vals ys its)(hz:ys.length<=sizeLine) :
  Inv X pins σ (upd H s.heap.objs.size (.lst ys)) { s with heap:=s.heap.push { cls:=.type "list",data:=.seq its.toArray },toks:=t' } :=
 I.laid (λ_ _ q=>Heap.get?_push_of_some _ q) (Nat.le_refl _) ⟨hz,its,0,hv,Heap.get?_push_size _ rfl⟩
theorem Inv.fresh(I:Inv X pins σ H s):H s.heap.objs.size=none:=I.hok.fresh (Nat.le_refl _)
theorem Inv.FJ(I:Inv X pins σ H s)(hH:H l=some (.lst xs)):xs.length<=sizeLine /\ ∃ (its:List Value) (n:Nat),Vals xs its/\xs.length=its.length/\s.heap.get? l=some { cls:=.type "list",data:=.seq its.toArray n }:=by obtain ⟨z,its,n,r,e⟩:=I.hok l _ hH;exact ⟨z,its,n,r,r.length,e⟩
theorem FK{n:Nat}(h:n<=sizeLine):Builtin.List.listTooLong n=false:=by unfold Builtin.List.listTooLong;exact decide_eq_false (by omega)
end
section
variable{X:Cx}
noncomputable def LP:V->List V->Hp->VK->Prop:=λx vs H Q=>∃ l xs y,x=.ref l/\vs=[y]/\H l=some (.lst xs)/\xs.length<sizeLine/\Q .non (upd H l (.lst (xs++[y])))
theorem A8:MtM X "list.append" LP:=by intro pins s σ H x vs v us Q I rx rv h;obtain ⟨l,xs,y,rfl,rfl,hH,hz,q⟩:=h;cases rx;obtain ⟨u,rfl,ru⟩:=rv.one;obtain ⟨z,its,n,r,hl,e⟩:=I.FJ hH;refine call_meets F.slot_list_append ⟨_,e,rfl⟩ F.entry_list_append (F.args_list_append_2 _ _) (PySem.list_append l its.toArray n u (by rw [size_toArray]; omega)) ⟨e,?_⟩;refine ⟨.non,_,I.YU (its':=its++[u]) hH e (by simp) (r.append (.cons ru .nil)) ?_,rfl,q⟩;rw [List.length_append,List.length_singleton];omega
noncomputable def LQ:V->List V->Hp->VK->Prop:=λx vs H Q=>∃ l b xs zs,x=.ref l/\vs=[.ref b]/\H l=some (.lst xs)/\H b=some (.lst zs)/\xs.length+zs.length<=sizeLine/\Q .non (upd H l (.lst (xs++zs)))
theorem NV:MtM X "list.extend" LQ:=by
 intro pins s σ H x vs v us Q I rx rv h;obtain ⟨l,b,xs,zs,rfl,rfl,hH,hB,hz,q⟩:=h;cases rx;obtain ⟨u,rfl,ru⟩:=rv.one;cases ru;obtain ⟨z,its,n,r,hl,e⟩:=I.FJ hH;obtain ⟨z2,its2,n2,r2,hl2,e2⟩:=I.FJ hB;have hsz:its.toArray.size+its2.toArray.size<=sizeLine:=by rw [size_toArray,size_toArray]; omega
 have TK:¬ (!its.toArray.isEmpty&&Builtin.List.listTooLong (its.toArray.size+its2.toArray.size))=true:=by rw [FK hsz,Bool.and_false];exact Bool.false_ne_true
 refine call_meets F.slot_list_extend ⟨_,e,rfl⟩ F.entry_list_extend (F.args_list_extend_2 _ _)
  (AutoSeq1.list_extend_list_list_0 l its.toArray n b its2.toArray n2 TK (by rw [size_toArray]; omega) (by omega)) ⟨e,e2,?_⟩
 refine ⟨.non,_,I.YU (its':=its++its2) hH e (by simp) (r.append r2) ?_,rfl,q⟩;rw [List.length_append];omega
noncomputable def TL:V->List V->Hp->VK->Prop:=λx vs H Q=>∃ l xs i k y,x=.ref l/\vs=[.int i]/\H l=some (.lst xs) /\ -(2 ^ 63)<=i/\i<2 ^ 63/\seqIndex? i xs.length=some k/\xs[k]? = some y/\Q y (upd H l (.lst (xs.eraseIdx k)))
theorem TN:MtM X "list.pop" TL:=by
 intro pins s σ H x vs v us Q I rx rv h;obtain ⟨l,xs,i,k,y,rfl,rfl,hH,h1,h2,hk,hy,q⟩:=h;cases rx;obtain ⟨u,rfl,ru⟩:=rv.one;obtain ⟨t,rfl⟩:=ru;obtain ⟨z,its,n,r,hl,e⟩:=I.FJ hH;obtain ⟨w,hw,II⟩:=r.get hy;refine call_meets F.slot_list_pop ⟨_,e,rfl⟩ F.entry_list_pop (F.args_list_pop_2 _ _)
  (MeetsSeq.list_pop_at l its.toArray n i t k w (fitsIndex_both h1 h2) (by rw [size_toArray,<- hl]; exact hk) (by rw [<- Array.getElem?_toList]; exact hw) (by rw [size_toArray]; omega)) ⟨e,?_⟩
 refine ⟨y,_,I.YU (its':=its.eraseIdx k) hH e ?_ (r.eraseIdx k) ?_,II,q⟩
 .show its.toArray.eraseIdxIfInBounds k=(its.eraseIdx k).toArray;rw [List.eraseIdxIfInBounds_toArray]
 .have:=A7 xs k;omega
noncomputable def aED:R2:=λx y H Q=>∃ l b xs zs,x=.ref l/\y=.ref b/\H l=some (.lst xs)/\H b=some (.lst zs)/\xs.length+zs.length<=sizeLine /\ ∀ p,H p=none->Q (.ref p) (upd H p (.lst (xs++zs)))
theorem TQ:nC X (binaryOp .Add) aED:=by
 intro pins s σ H x y v u Q I rx ry h;obtain ⟨l,b,xs,zs,rfl,rfl,hH,hB,hz,q⟩:=h;cases rx;cases ry;obtain ⟨z,its,n,r,hl,e⟩:=I.FJ hH;obtain ⟨z2,its2,n2,r2,hl2,e2⟩:=I.FJ hB;refine PySem.P.add_list e e2 ?_ (by rw [size_toArray,size_toArray]; omega);have ea:its.toArray++its2.toArray=(its++its2).toArray:=by simp
 rw [ea];exact ⟨.ref _,_,I.aEC (t':=s.toks) (r.append r2) (by rw [List.length_append]; omega),rfl,q _ I.fresh⟩
noncomputable def aHw:R2:=λx y H Q=>∃ l k xs,x=.ref l/\y=.int k/\H l=some (.lst xs) /\ -(2 ^ 63)<=k/\k<2 ^ 63/\xs.length*k.toNat<=sizeLine /\
 ∀ p,H p=none->Q (.ref p) (upd H p (.lst (List.replicate k.toNat xs).flatten))
theorem len_rep{α:Type}(xs:List α)(k:Nat):(List.replicate k xs).flatten.length=k*xs.length:=by
 induction k with
 | zero=>simp
 | succ k ih=>rw [replicate_succ,flatten_cons,List.length_append,ih,Nat.succ_mul,Nat.add_comm]
theorem aBk:nC X (binaryOp .Mult) aHw:=by
 intro pins s σ H x y v u Q I rx ry h;obtain ⟨l,k,xs,rfl,rfl,hH,h1,h2,hz,q⟩:=h;cases rx;obtain ⟨t,rfl⟩:=ry;obtain ⟨z,its,n,r,hl,e⟩:=I.FJ hH;have hlen:its.toArray.size*k.toNat<=sizeLine:=by rw [size_toArray,<- hl]; exact hz
 have hcap:¬ its.toArray.size*k.toNat>(2 ^ 63 - 1) / 8:=by
  have:(sizeLine:Nat)<=(2 ^ 63 - 1) / 8:=by decide
  omega
 have hfit:¬ (!Builtin.List.listFitsIndex k)=true:=by rw [fitsIndex_both h1 h2];exact Bool.false_ne_true
 have TK:¬ Builtin.List.listTooLong (its.toArray.size*k.toNat)=true:=by rw [FK hlen];exact Bool.false_ne_true
 have hnew:List.foldl (λx1 x2=>x1++x2) #[] (List.replicate (if its.toArray.isEmpty=true then 0 else k.toNat) its.toArray)=(List.replicate k.toNat its).flatten.toArray:=by
  have f0:∀ m:Nat,List.foldl (λx1 x2=>x1++x2) #[] (List.replicate m its.toArray)=(List.replicate m its).flatten.toArray:=λm=>by have:=foldl_rep its m [];rw [nil_append] at this;exact this
  rw [f0]
  cases its with
  | nil=>simp
  | cons a r'=>rw [if_neg (by simp)]
 refine wpAny_binaryOp_repeat_ref (T := "list") (U := "int") (by decide) ⟨_,e,rfl⟩ (λs'=>typeIs_int s' k t) noFill_list_mul F.fills_int_mul F.slot_int_rmul repeat_list F.slot_int_index.lookup
  (call_meets F.slot_int_rmul (typeIs_int s k t) F.entry_int_rmul (F.args_int_rmul_2 _ _) (int___rmul___int_list k t l its.toArray n)
   ⟨e,rfl,⟨_,e,rfl⟩,call_meets F.slot_list_mul ⟨_,e,rfl⟩ F.entry_list_mul (F.args_list_mul_2 _ _) (AutoListH.list___mul___list_int_3 l its.toArray n k t hfit hcap TK) ⟨e,?_⟩⟩)
 rw [hnew];exact ⟨.ref _,_,I.aEC (t':=s.toks) (r.rep k.toNat) (by rw [len_rep,Nat.mul_comm]; exact hz),rfl,q _ I.fresh⟩
end
section
variable{prog:Program}{w:World}{A:Around}{E:Value->Shared->Prop}{s:Shared}
set_option maxRecDepth 100000 in
end
section
variable{X:Cx}
end
end L2
namespace Att
open PySem PySem.W PySem.Calls PyProof.Rows
theorem vD{P:Params}{h:Heap}:∀ (ns:List Int) (vs:List Value),WellAll P h vs (ns.map WData.int)->IntsAre vs ns:=by
 intro ns
 induction ns with
 | nil =>
  intro vs w;rw [map_nil] at w;cases w;exact .nil
 | cons n ns ih =>
  intro vs w;rw [map_cons] at w
  cases w with
  | cons a b =>
   cases a;exact .cons _ _ (ih _ b)
theorem NW{l:OpenLaw}{n:Nat}(hn:l.most=some n){P:Params}{h:Heap}{args:List WData}{vals:List Value}
  (hpre:l.row.toRowW.claim.pre args=true) (hwl:WellAll P h vals args) :
  ∃ a vs ns,vals=[Value.ref a]/\args=[WData.list (ns.map WData.int)]/\h.get? a=some { cls:=.type "list",data:=.seq vs.toArray }/\IntsAre vs ns/\ns.length<=n:=by
 have hsh:WShape.hasAll [] args [.list .int]=true:=(pre_splitW hpre).1;have hc:l.pre.holds [] { args:=args }=true:=(pre_splitW hpre).2;obtain ⟨d,r,rfl,h1,h2⟩:=hasAllW_cons hsh;obtain rfl:=hasAllW_nil h2;obtain ⟨xs,rfl,h3⟩:=hasW_list h1;obtain ⟨ns,rfl⟩:=items_int h3;have hlen:ns.length<=n:=by
  unfold OpenLaw.pre at hc;have h4:(WTm.not (.lt (.lit (.int (n:Int))) (.len (.arg 0)))).holds [] { args:=[.list (ns.map .int)] }=true:=by have h4:=(holds_andW hc).1;rw [hn] at h4;exact h4
  have h5:=condW_of h4 (w_not (w_lt w_lit (w_len_list (w_arg rfl))));rw [length_map] at h5;refine Nat.le_of_not_lt λq=>?_;have q':(n:Int)<((ns.length:Nat):Int):=by omega
  first
   | (rw [decide_eq_true q'] at h5; exact absurd h5 (by decide))
   | (simp at h5; omega)
 cases hwl with
 | cons w1 w2 =>
  cases w2
  cases w1 with
  | list ho hall=>exact ⟨_,_,ns,rfl,rfl,ho,vD ns _ hall,hlen⟩
theorem NX(l:OpenLaw)(args:List WData):l.row.toRowW.claim.post args (.bool true) args=true :=
 postW_of (r:=l.row.toRowW) (X:=(true == true))
  (show WShape.has [] (.bool true) .bool=true by first | rfl | decide | simp [WShape.has,WShape.arms,WShape.armsAll])
  (show (WTm.eq .res (.lit (.bool true))).value [] { args:=args,res:=some (.bool true),after:=args }=some (.bool (true == true)) from w_eq_bool (w_res rfl) w_lit) rfl
theorem FL{l:OpenLaw}{n:Nat}{q:Program}{loose:List Str}{XP:(Str->Option Value)->Heap->Prop}{YP:World->Heap->Prop}{d:DefRec}
  (hn:l.most=some n) (hdf:d.params.defaults=[])
  (call:∀ (w:World) (s₀ s₁:Shared) (mg mb:Str->Option Value) (fa:Addr) (o:Obj) (pm cd doc:Value) (a:Addr) (vs:List Value) (ns:List Int),
   Ground q loose [] XP w s₀ mg mb s₁.heap->YP w s₁.heap ->
   s₁.heap.get? fa=some o->o.data=.func (docDef d.name d.params d.body d.scope pm cd doc)->s₁.heap.CodeRec cd d.name->mg d.name=some (.ref fa) ->
   s₁.heap.get? a=some { cls:=.type "list",data:=.seq vs.toArray }->IntsAre vs ns->ns.length<=n->s₁.gens=#[] ->
   codeAny (model l.prog w) callerA (.call (.ref fa) ⟨[.ref a],[]⟩) (λr s'=>r=.ok (.ret (.bool true))/\OldK s₁.heap s'.heap/\s'.os=s₁.os/\AllBare s'.gens) s₁) :
  WalkO q loose XP YP l.row.toRowW d [] (λf vs=>PySem.call f vs):=by
 intro w s₀ s₁ mg mb G Y fa o pm cd doc dV kV ho hd hcd hD hmg hg args vals as hpre hlay hrd hwl hlo;obtain rfl:dV=.none:=Dflts.none hD hdf;obtain rfl:kV=.none:=Dflts.noKw hD;obtain ⟨a,vs,ns,rfl,rfl,hobj,hints,hlen⟩:=NW hn hpre hwl;refine enter_call (codeAny_mono (call w s₀ s₁ mg mb fa o pm cd doc a vs ns G Y ho (fd_plain hd) hcd hmg hobj hints hlen hg) λr s' hq=>?_);obtain ⟨rfl,h2,h3,h4⟩:=hq;exact ⟨.inl ⟨.bool true,.bool true,[],rfl,λ_=>rfl,.bool true,NX l _,λ_=>⟨List.Pairwise.nil,λ_ hm=>(nomatch hm)⟩⟩,h2,h3,h4⟩
section
variable{prog:Program}{w:World}{A:Around}{E:Value->Shared->Prop}{s:Shared}{K:Frag}
noncomputable def DI(h:Heap):Heap:={ h with objs:=#[] }
theorem yB(h:Heap)(b:Addr):(DI h).get? b=none:=by
 cases e:(DI h).get? b with
 | none=>rfl
 | some o=>exact absurd (Heap.lt_size e) (Nat.not_lt_zero _)
noncomputable def ledger(h:Heap)(L d:Addr):List (Addr×Obj):=(List.range h.objs.size).filterMap λa=>if a=L\/a=d then none else (h.get? a).map λo=>(a,o)
theorem mM{h:Heap}{L d a:Addr}{o:Obj}:(a,o)∈ledger h L d↔a≠L/\a≠d/\h.get? a=some o:=by
 unfold ledger;rw [List.mem_filterMap]
 constructor
 .rintro ⟨b,_,e⟩;split at e
  .cases e
  .rename_i hb;obtain ⟨o',ho,e'⟩:=Option.map_eq_some_iff.mp e;cases e';exact ⟨λq=>hb (.inl q),λq=>hb (.inr q),ho⟩
 .rintro ⟨n1,n2,ho⟩;refine ⟨a,List.mem_range.mpr (Heap.lt_size ho),?_⟩;rw [if_neg (show ¬ (a=L\/a=d) from λq=>q.elim n1 n2),ho]<;>rfl
theorem aBl{h:Heap}{L:Addr}{m:Str->Option Value}(n:h.Ns L m):Fr (DI h) L h m :=
 ⟨n,λb o e=>(by rw [yB] at e; cases e),Nat.zero_le _⟩
end
end Att
namespace L2
open PySem PySem.Spec PyProof.Rows
theorem oZ:∀ {vs:List Value} {ns:List Int},IntsAre vs ns->Vals (ns.map V.int) vs
 | _,_,.nil=>.nil
 | _,_,.cons n t h=>.cons ⟨t,rfl⟩ (oZ h)
noncomputable def Only(H:Hp):Prop:=∀ b,H b=none\/(∃ o xs,H b=some (.xX o (.lst xs))) \/ ∃ q,H b=some (.NL q)
structure TabsOk (K:PySem.W.Frag) (q:Program):Prop where
 nd:((e8 K).map (·.2.2)).Nodup
 rc:∀ t∈e8 K,∃ e,(recsOf q).find? (λe=>e.name == t.1)=some e
theorem IL{K:PySem.W.Frag}{t:Str×Addr×Addr}(h:t∈e8 K):PySem.W.tabIn K t.1=some (t.2.1,t.2.2):=by
 obtain ⟨x,_,e⟩:=List.mem_filterMap.mp h
 cases q:PySem.W.tabIn K x with
 | none=>rw [q] at e; cases e
 | some p=>rw [q] at e; cases e; exact q
noncomputable def IM(K:PySem.W.Frag)(a:Addr)(u:Option HO):Hp:=λb=>if b=a then u else ((e8 K).find? λt=>t.2.2 == b).map λt=>.NL (X8 t.1)
theorem NY{l:List (Str×Addr×Addr)}(nd:(l.map (·.2.2)).Nodup){t:Str×Addr×Addr}(h:t∈l):l.find? (λu=>u.2.2 == t.2.2)=some t:=by
 induction l with
 | nil=>cases h
 | cons u l ih =>
  rw [map_cons,List.nodup_cons] at nd;rw [find?_cons];by_cases e:(u.2.2 == t.2.2)=true
  .rw [e];rcases List.mem_cons.1 h with z | z
   .rw [z]
   .exact absurd (List.mem_map.2 ⟨t,z,(eq_of_beq e).symm⟩) nd.1
  .rw [Bool.not_eq_true] at e;rw [e];rcases List.mem_cons.1 h with z | z
   .rw [z,beq_self_eq_true] at e; cases e
   .exact ih nd.2 z
theorem TR{P:Program}{w:World}{K:PySem.W.Frag}{mg mb:Str->Option Value}{CX:QP}{k:Nat}{fa a:Addr}{fd:FuncData}{x:Str}{sp:Sp}{s₁:Shared}{vs:List Value}{ns:List Int}
  (KX:K.In s₁.heap) (hns:s₁.heap.Ns mainGlobals mg) (hb:s₁.heap.Ns builtinsNs mb) (hbb:∀ x:Str,x ≠ "__name__" -> mb x=bootBuiltins x) (hlim:s₁.heap.NoLimit)
  (hbm:∃ bm ob,mg "__builtins__" = some (.ref bm)/\bm≠builtinsNs/\s₁.heap.get? bm=some ob/\ob.cls=.type "module" /\ ob.dict=some builtinsNs/\ob.data=.plain)
  (hT:∀ t∈e8 K,PySem.W.CodeHd s₁.heap t.2.1 t.2.2/\s₁.heap.get? t.2.2=some (PySem.W.tabObj #[])) (hnd:((e8 K).map (·.2.2)).Nodup) (hnt:PySem.W.noTabs K=true) (hg:s₁.gens=#[])
  (ha:s₁.heap.get? a=some { cls:=.type "list",data:=.seq vs.toArray }) (hi:IntsAre vs ns) (hl:ns.length<=sizeLine) (hr:kB k callerA)
  (F:∀ base:Heap,K.In base->base.Ns mainGlobals mg->aQ P w K mg base CX k fa fd [x] sp) (hbind:∀ (s:Shared) (u:Value),BindsTo s fd ⟨[u],[]⟩ [(x,u)])
  (hsp:∀ H:Hp,Only H->eO K H a (ns.map V.int)->sp [.ref a] H (λv _=>v=.bl true) λ_ _ _=>False)
  (hCX:∀ H e s',CX [] H s₁ (λ_ _ _=>False) e s'->False) :
  codeAny (model P w) callerA (.call (.ref fa) ⟨[.ref a],[]⟩) (λr s'=>r=.ok (.ret (.bool true))/\OldK s₁.heap s'.heap/\s'.os=s₁.os/\AllBare s'.gens) s₁:=by
 have rv:=oZ hi;have lenV:=hi.length;have neA:∀ t∈e8 K,t.2.2≠a:=λt ht z=>by have e:=(hT t ht).2;rw [z,ha] at e;cases e
 -- a tracked address: the script or a table
 have core:∀ u:Option HO,(u=none \/ ∃ o xs,u=some (.xX o (.lst xs)))->eO K (IM K a u) a (ns.map V.int)->(∀ v,u=some v->dJ P w (IM K a u) s₁.heap a v)->(u≠none->K.lookup a=none) ->
   codeAny (model P w) callerA (.call (.ref fa) ⟨[.ref a],[]⟩) (λr s'=>r=.ok (.ret (.bool true))/\OldK s₁.heap s'.heap/\s'.os=s₁.os/\AllBare s'.gens) s₁:=by
  intro u hu hS aEE hK;obtain ⟨H,eH⟩:∃ H,IM K a u=H:=⟨_,rfl⟩;have zH:∀ t∈e8 K,H t.2.2=some (.NL (X8 t.1)):=λt ht=>by rw [<- eH];unfold IM;rw [if_neg (neA t ht),NY hnd ht];rfl
  have tO:∀ b,H b=none\/(b=a/\H b=u/\u≠none) \/ ∃ t∈e8 K,t.2.2=b/\H b=some (.NL (X8 t.1)):=λb=>by
   by_cases hb:b=a
   .cases hu2:u with
    | none=>left; rw [<- eH]; unfold IM; rw [if_pos hb,hu2]
    | some v=>right; left; refine ⟨hb,?_,by simp⟩; rw [<- eH]; unfold IM; rw [if_pos hb,hu2]
   .cases q:(e8 K).find? λt=>t.2.2 == b with
    | none=>left; rw [<- eH]; unfold IM; rw [if_neg hb,q]; rfl
    | some t =>
     have e1:t.2.2=b:=eq_of_beq (List.find?_some (p:=λt:Str×Addr×Addr=>t.2.2 == b) q);have e2:=List.mem_of_find?_eq_some q;exact .inr (.inr ⟨t,e2,e1,by rw [<- e1]; exact zH t e2⟩)
  rw [eH] at hS aEE;have hO:Only H:=λb=>by
   rcases tO b with z | ⟨_,z,_⟩ | ⟨t,_,_,z⟩
   .exact .inl z
   .rcases hu with y | ⟨o,xs,y⟩
    .exact .inl (z.trans y)
    .exact .inr (.inl ⟨o,xs,z.trans y⟩)
   .exact .inr (.inr ⟨_,z⟩)
  have hok:pT P w H s₁.heap:=λb v e=>by
   rcases tO b with z | ⟨rfl,z,_⟩ | ⟨t,ht,rfl,z⟩
   .rw [z] at e; cases e
   .exact aEE v (by rw [<- z]; exact e)
   .rw [z] at e;cases e;exact ⟨#[],(hT t ht).2,trivial,λpos cv e=>by cases e⟩
  -- an object that is neither the script nor a table is not tracked
  have TU:∀ {b:Addr} {o:Obj},s₁.heap.get? b=some o->o.cls≠.none->(∀ ys n,o.data≠.seq ys n)->H b=none:=λ{b o} e hc hs=>by
   rcases tO b with z | ⟨rfl,_,_⟩ | ⟨t,ht,rfl,z⟩
   .exact z
   .rw [ha] at e; cases e; exact absurd rfl (hs _ _)
   .rw [(hT t ht).2] at e; cases e; exact absurd rfl hc
  have nsN:∀ {b:Addr} {o:Obj} {es:Array DictEntry} {ep:Nat},s₁.heap.get? b=some o->o.data=.dict es ep->H b=none:=λ{b o es ep} e d=>by
   rcases tO b with z | ⟨rfl,_,_⟩ | ⟨t,ht,rfl,z⟩
   .exact z
   .rw [ha] at e; cases e; cases d
   .rw [(hT t ht).2] at e; cases e; cases d
  have vU:∀ {b:Addr} {o:Obj},s₁.heap.get? b=some o->H b=none->(zP s₁.heap H).get? b=some o:=λe n=>SM e n;have nsK:∀ {b:Addr} {m:Str->Option Value},s₁.heap.Ns b m->(zP s₁.heap H).Ns b m:=λ{b m} ⟨o,es,ep,e,d,r⟩=>⟨o,es,ep,vU e (nsN e d),d,r⟩;have hKb:K.In (zP s₁.heap H):=λb o e=>vU (KX b o e) (by
   rcases tO b with z | ⟨rfl,_,z⟩ | ⟨t,ht,rfl,z⟩
   .exact z
   .rw [hK z] at e; cases e
   .have e2:=KX _ o e;rw [(hT t ht).2] at e2;cases e2;have h2:=List.all_eq_true.mp hnt (t.2.2,PySem.W.tabObj #[]) (PySem.W.mem_of_lookupK e);exact absurd (show false=true from h2) Bool.false_ne_true)
  have hM:Mod K mg (zP s₁.heap H):=⟨hKb,nsK hns,⟨mb,nsK hb,hbb⟩,let ⟨mc,h1,h2⟩:=hlim; ⟨mc,nsK h1,h2⟩,
   let ⟨bm,ob,b1,b2,b3,b4,b5,b6⟩:=hbm; ⟨bm,ob,b1,b2,vU b3 (TU b3 (by rw [b4]; nofun) λys n z=>by rw [b6] at z; cases z),b4,b5,b6⟩⟩
  have aHy:X9 K (zP s₁.heap H) H:=λt ht=>by obtain ⟨o,vs',file,tf,flags,tg,inF,text,tt,e1,r1,r2,r3⟩:=(hT t ht).1;exact ⟨⟨o,vs',file,tf,flags,tg,inF,text,tt,vU e1 (TU e1 (by rw [r1]; nofun) λys n z=>by rw [r2] at z; cases z),r1,r2,r3⟩,zH t ht⟩
  have e0:YL P w K mg (zP s₁.heap H) callerA [] s₁ H:=⟨rfl,hM,λb o e=>X7 e,Nat.le_of_eq (NM _ _),trivial,λb hb=>absurd (show b∈([]:List Addr) from hb) (by simp),hok,.of_eq hg,aHy⟩;refine codeAny_mono ((F _ hKb (nsK hns)).run callerA [] s₁ H ⟨[.ref a],[]⟩ [.ref a] [.ref a] _ _ hr e0 (hbind s₁ (.ref a)) (.cons rfl .nil) (hsp H hO hS)) λr s' h=>?_
  cases r with
  | error e=>exact (hCX H e s' h).elim
  | ok fl =>
   cases fl with
   | next=>exact False.elim h
   | brk=>exact False.elim h
   | cont=>exact False.elim h
   | ret v =>
    obtain ⟨y,H',os,bare,un,hok',r',q⟩:=h;have q':y=.bl true:=q;subst q';obtain rfl:v=Value.bool true:=r';have old:∀ b o,s₁.heap.get? b=some o->asItWas s₁.heap s'.heap b o /\ ∃ o',s'.heap.get? b=some o':=λb o e=>by
     rcases tO b with z | ⟨rfl,z,hne⟩ | ⟨t,ht,rfl,z⟩
     .have k:=un.keep b o e z (by intro z; exact absurd (show b∈([]:List Addr) from z) (by simp)) (by simp);exact ⟨.inl k,o,k⟩
     .rcases hu with y | ⟨ob,xs,y⟩
      .exact absurd y hne
      .have z1:=z.trans y;have z2:=un.tM b ob _ z1;obtain ⟨e1,_⟩:=hok b _ z1;obtain ⟨e2,_⟩:=hok' b _ z2;rw [e] at e1; cases e1;exact ⟨.inl e2,o,e2⟩
     .obtain ⟨ps,e2,_⟩:=hok' _ _ (un.rR _ _ z);have e1:=(hT t ht).2;rw [e] at e1;cases e1;exact ⟨.inr (.inl ⟨((hT t ht).1.tab (hT t ht).2).isCodeTable,rfl,#[],ps,rfl,by rw [e2,Array.empty_append]⟩),_,e2⟩
    exact ⟨rfl,⟨λb o e=>(old b o e).1,λb o e=>(old b o e).2⟩,os,bare⟩
 cases hk:K.lookup a with
 | some o =>
  -- the script is one of the module's own objects
  have e:=KX a o hk;rw [ha] at e;cases e;exact core none (.inl rfl) (.inr ⟨_,vs.toArray,_,hk,rfl,rfl,rfl,by rw [size_toArray,lenV]; exact hl,by simpa using rv⟩) (λv z=>by cases z) λz=>absurd rfl z
 | none =>
  refine core (some (.xX { cls:=.type "list",data:=.seq vs.toArray } (.lst (ns.map V.int)))) (.inr ⟨_,_,rfl⟩) (.inl (.inr ⟨{ cls:=.type "list",data:=.seq vs.toArray },if_pos rfl⟩)) (λv z=>?_) λ_=>hk;cases z;exact ⟨ha,by rw [length_map]; exact hl,vs,_,rv,ha⟩
end L2
namespace L2
open PySem PySem.Spec PyProof.Rows
noncomputable abbrev KOf{K:PySem.W.Frag}{h:Heap}(_:K.In h):PySem.W.Frag:=K
theorem YV{l:PySem.W.OpenLaw}{n k:Nat}{q:Program}{loose:List Str}{XP:(Str->Option Value)->Heap->Prop}{YP:World->Heap->Prop}{d:DefRec}{K:Params->PySem.W.Frag}{CX:World->QP}{sp:World->Sp}{x:Str}
  (hn:l.most=some n) (hn2:n<=sizeLine) (hdf:d.params.defaults=[]) (hr:kB k callerA)
  (hY:∀ (w:World) (h:Heap),YP w h->(K w.params).In h)
  (hTb:∀ w:World,TabsOk (K w.params) q) (hnt:∀ w:World,PySem.W.noTabs (K w.params)=true)
  (F:∀ (w:World) (mg:Str->Option Value) (fa:Addr) (h:Heap),(K w.params).In h->h.Ns mainGlobals mg->mg d.name=some (.ref fa) ->
   ∃ fd:FuncData,(∀ (s:Shared) (u:Value),BindsTo s fd ⟨[u],[]⟩ [(x,u)]) /\
    ∀ base:Heap,(K w.params).In base->base.Ns mainGlobals mg->aQ l.prog w (K w.params) mg base (CX w) k fa fd [x] (sp w))
  (hsp:∀ (w:World) (H:Hp) (a:Addr) (ns:List Int),ns.length<=n->Only H->eO (K w.params) H a (ns.map V.int)->sp w [.ref a] H (λv _=>v=.bl true) λ_ _ _=>False)
  (hCX:∀ (w:World) (H:Hp) (s:Shared) (e:Value) (s':Shared),CX w [] H s (λ_ _ _=>False) e s'->False) :
  PySem.W.WalkO q loose XP YP l.row.toRowW d [] (λf vs=>PySem.call f vs):=by
 refine Att.FL hn hdf λw s₀ s₁ mg mb fa o pm cd doc a vs ns G Y ho hd hcd hmg hobj hints hlen hg=>?_;have KX:=hY w _ Y;obtain ⟨fd,hb,hF⟩:=F w mg fa _ KX G.T.g hmg;have hT:∀ t∈e8 (K w.params),PySem.W.CodeHd s₁.heap t.2.1 t.2.2/\s₁.heap.get? t.2.2=some (PySem.W.tabObj #[]):=λt ht=>by obtain ⟨e,he⟩:=(hTb w).rc t ht;exact PySem.W.tab_of G.T KX he (IL ht)
 exact TR KX G.T.g G.T.b G.T.builtins G.T.nolimit G.T.bmain hT (hTb w).nd (hnt w) hg hobj hints (Nat.le_trans hlen hn2) hr hF hb (λH hO hS=>hsp w H a ns hlen hO hS) λH e s'=>hCX w H s₁ e s'
end L2
namespace L2
open PySem PySem.Spec PyProof.Rows
noncomputable def bE(s:Stmt):Arguments:=match s with
 | .FunctionDef _ a _ _ _ _ _ _ _ _=>a
 | _=>{ posonlyargs:=[],args:=[],vararg:=none,kwonlyargs:=[],kw_defaults:=[],kwarg:=none,defaults:=[] }
noncomputable def aX(s:Stmt):List Stmt:=match s with
 | .FunctionDef _ _ b _ _ _ _ _ _ _=>b
 | _=>[]
noncomputable def aH(s:Stmt):Scope:=match s with
 | .FunctionDef _ _ _ _ _ _ sc _ _ _=>sc
 | _=>{ kind:=.function,names:=[],isGenerator:=false,isCoroutine:=false }
noncomputable abbrev dE:QP:=λ_ _ _ _ _ _=>False
noncomputable abbrev E0:XK:=λ_ _ _=>False
theorem TV{X:Cx}:Passes dE X E0:=λ_ _ _ _ _ _ _ h=>h.elim
structure m9 (K:PySem.W.Frag) (x qual:Str) (st:Stmt) (f:Addr) (fd:FuncData):Prop where
 ex:∃ (oc:Value) (od:Option Addr) (kV doc pm:Value) (an:Option Addr) (cdv ct:Value) (osl:Array (Option Value)),
  fd=PySem.W.fnOf x qual (bE st) (aX st) (aH st) .none kV doc pm an cdv ct/\K.lookup f=some ⟨oc,od,.func fd,osl⟩/\PySem.W.codeIn K cdv qual=true
 kp:PySem.W.keepIn K (.ref f)=true
section
variable{P:Program}{w:World}{K:PySem.W.Frag}{mg:Str->Option Value}{base:Heap}
theorem m9.ok{x qual:Str}{st:Stmt}{f:Addr}{fd:FuncData}{N ps:List Str}{k:Nat}{sp:Sp}(F:m9 K x qual st f fd)(S:bD N ps (aH st))(len:∀ vs H Q E,sp vs H Q E->vs.length=ps.length)
  (hbody:∀ (cdv:Value) (A:Around) (outer:List Env) (s:Shared) (H:Hp) (vs:List V) (Q:VK) (E:XK),kB k (A.deeper (envOfC qual (aH st) s.heap.objs.size f cdv))->sp vs H Q E ->
   ∃ t,A2 (DA dE P w K mg base N qual (aH st) f cdv A outer s H E).nox (aX st) t/\t { nx:=λ_ H'=>Q .non H',rt:=Q } (start N vs) H):aQ P w K mg base dE (k+1) f fd ps sp:=by
 obtain ⟨oc,od,kV,doc,pm,an,cdv,ct,osl,rfl,lk,hcd⟩:=F.ex;refine aDw lk hcd S len λA outer s H vs Q E hr hsp=>?_;obtain ⟨t,h,q⟩:=hbody cdv A outer s H vs Q E hr hsp;exact ⟨t,h.nox,q⟩
theorem m9.binds{x qual:Str}{st:Stmt}{f:Addr}{fd:FuncData}{ps:List Str}(F:m9 K x qual st f fd)
  (h:∀ (kV doc pm:Value) (an:Option Addr) (cdv ct:Value) (us:List Value),us.length=ps.length->bindArgs (PySem.W.fnOf x qual (bE st) (aX st) (aH st) .none kV doc pm an cdv ct) ⟨us,[]⟩=pure (ps.zip us)):Binds K fd ps []:=by
 obtain ⟨oc,od,kV,doc,pm,an,cdv,ct,osl,rfl,lk,hcd⟩:=F.ex;exact .all (h kV doc pm an cdv ct)
theorem cV{x qual:Str}{st:Stmt}{f:Addr}{oc:Value}{od an:Option Addr}{osl:Array (Option Value)}{kV doc pm cdv ct:Value}(l:K.lookup f=some ⟨oc,od,.func (PySem.W.fnOf x qual (bE st) (aX st) (aH st) .none kV doc pm an cdv ct),osl⟩)
  (c:PySem.W.codeIn K cdv qual=true) (k:PySem.W.keepIn K (.ref f)=true):m9 K x qual st f (PySem.W.fnOf x qual (bE st) (aX st) (aH st) .none kV doc pm an cdv ct):=⟨⟨oc,od,kV,doc,pm,an,cdv,ct,osl,rfl,l,c⟩,k⟩
end
section
variable{X:Cx}
end
noncomputable def Same(H H':Hp):Prop:=∀ b o,H b=some o->H' b=some o
theorem Same.refl(H:Hp):Same H H:=λ_ _ h=>h
theorem Same.trans{H H1 H2:Hp}(a:Same H H1)(b:Same H1 H2):Same H H2:=λc o h=>b c o (a c o h)
theorem Same.free{H H':Hp}(e:Same H H'){l:Addr}(h:H' l=Option.none):H l=Option.none:=by
 cases q:H l with
 | none=>rfl
 | some o =>
  rw [e l o q] at h;cases h
end L2
namespace L2
open PySem PySem.Spec PyProof.Rows
section
variable{κ:Type}[DecidableEq κ]
noncomputable def gE(kvs:List (κ×V))(k:κ):Option V:=(kvs.find? λkv=>decide (kv.1=k)).map (·.2)
noncomputable def putK(kvs:List (κ×V))(k:κ)(v:V):List (κ×V) :=
 if (kvs.any λkv=>decide (kv.1=k))=true then kvs.map (λkv=>if kv.1=k then (kv.1,v) else kv) else kvs++[(k,v)]
noncomputable def aAU(kvs:List (κ×V))(k:κ):List (κ×V):=kvs.filter λkv=>decide (kv.1≠k)
theorem fE{p:κ×V}{r:List (κ×V)}{k:κ}(e:p.1=k):gE (p::r) k=some p.2:=by simp [gE,find?_cons,e]
theorem fF{p:κ×V}{r:List (κ×V)}{k:κ}(e:¬ p.1=k):gE (p::r) k=gE r k:=by simp [gE,find?_cons,e]
theorem n8(k:κ):∀ kvs:List (κ×V),(kvs.any λkv=>decide (kv.1=k))=(gE kvs k).isSome
 | []=>rfl
 | p::r=>by
  rw [any_cons];by_cases e:p.1=k
  .simp only [fE e,decide_eq_true e,Bool.true_or,Option.isSome_some]
  .rw [fF e,decide_eq_false e,Bool.false_or]; exact n8 k r
theorem FN(k j:κ)(y:V):∀ kvs:List (κ×V),gE (kvs.map λkv=>if kv.1=k then (kv.1,y) else kv) j=(gE kvs j).map λx=>if j=k then y else x
 | []=>rfl
 | p::r=>by
  have ih:=FN k j y r;rw [map_cons];by_cases h:p.1=k
  .rw [if_pos h];by_cases e:p.1=j
   .rw [fE (p:=(p.1,y)) e,fE e,Option.map_some,if_pos (e.symm.trans h)]
   .rw [fF (p:=(p.1,y)) e,fF e,ih]
  .rw [if_neg h];by_cases e:p.1=j
   .rw [fE (p:=p) e,fE e,Option.map_some,if_neg (λz=>h (e.trans z))]
   .rw [fF (p:=p) e,fF e,ih]
theorem A9(k j:κ)(y:V):∀ kvs:List (κ×V),gE kvs k=none->gE (kvs++[(k,y)]) j=if j=k then some y else gE kvs j
 | [],_=>by
  by_cases e:k=j
  .rw [if_pos e.symm]; exact fE (p:=(k,y)) e
  .rw [if_neg (λz=>e z.symm)]; exact fF (p:=(k,y)) e
 | p::r,hn=>by
  rw [cons_append];have hk:¬ p.1=k:=λz=>by rw [fE z] at hn; cases hn
  rw [fF hk] at hn;have ih:=A9 k j y r hn;by_cases e:p.1=j
  .rw [fE e,fE e,if_neg (λz=>hk (e.trans z))]
  .rw [fF e,fF e,ih]
theorem TX(kvs:List (κ×V))(k j:κ)(y:V):gE (putK kvs k y) j=if j=k then some y else gE kvs j:=by
 unfold putK;by_cases a:(kvs.any λkv=>decide (kv.1=k))=true
 .rw [if_pos a,FN];rw [n8] at a;by_cases e:j=k
  .obtain ⟨x,hx⟩:=Option.isSome_iff_exists.mp a;rw [if_pos e,e,hx,Option.map_some,if_pos rfl]
  .rw [if_neg e]
   cases gE kvs j with
   | none=>rfl
   | some x=>rw [Option.map_some,if_neg e]
 .rw [if_neg a];refine A9 k j y kvs ?_;rw [n8] at a
  cases q:gE kvs k with
  | none=>rfl
  | some x=>rw [q] at a; exact (a rfl).elim
theorem uM(kvs:List (κ×V))(k:κ)(v:V):(putK kvs k v).length<=kvs.length+1:=by
 unfold putK;split
 .rw [length_map]; omega
 .rw [List.length_append,length_cons,length_nil]; omega
theorem TY{kvs:List (κ×V)}{k:κ}(v:V)(h:gE kvs k=none):putK kvs k v=kvs++[(k,v)]:=by unfold putK;rw [n8,h];exact if_neg (by decide)
theorem nW.pA{o:Option V}{u:Option Value}(r:nW o u):o.isSome=u.isSome:=by
 cases o with
 | none=>cases u with
  | none=>rfl
  | some _=>exact (show False from r).elim
 | some _=>cases u with
  | none=>exact (show False from r).elim
  | some _=>rfl
theorem nW.getD{o:Option V}{u:Option Value}{d:V}{d':Value}(r:nW o u)(rd:RelV d d'):RelV (o.getD d) (u.getD d'):=by
 cases o with
 | none=>cases u with
  | none=>exact rd
  | some _=>exact (show False from r).elim
 | some _=>cases u with
  | none=>exact (show False from r).elim
  | some _=>exact r
theorem KV.val{kvs:List (κ×V)}{vs:List (κ×Value)}(r:KV kvs vs)(k:κ):nW (gE kvs k) (valueAt vs k):=by
 unfold KV at r
 induction r with
 | nil=>exact True.intro
 | @cons p q ps qs h t ih =>
  obtain ⟨h1,h2⟩:=h;by_cases e:p.1=k
  .have e':q.1=k:=h1.symm.trans e;have b:valueAt (q::qs) k=some q.2:=by simp [valueAt,find?_cons,e']
   rw [fE e,b]; exact h2
  .have e':¬ q.1=k:=λz=>e (h1.trans z);have b:valueAt (q::qs) k=valueAt qs k:=by simp [valueAt,find?_cons,e']
   rw [fF e,b]; exact ih
theorem KV.any{kvs:List (κ×V)}{vs:List (κ×Value)}(r:KV kvs vs)(k:κ):(kvs.any λkv=>decide (kv.1=k))=vs.any λkv=>decide (kv.1=k):=by
 unfold KV at r
 induction r with
 | nil=>rfl
 | cons h t ih=>rw [any_cons,any_cons,ih,h.1]
theorem KV.repl{kvs:List (κ×V)}{vs:List (κ×Value)}(r:KV kvs vs)(k:κ){y:V}{u:Value}(ry:RelV y u) :
  KV (kvs.map λkv=>if kv.1=k then (kv.1,y) else kv) (vs.map λkv=>if kv.1=k then (kv.1,u) else kv):=by
 unfold KV at r ⊢
 induction r with
 | nil=>exact .nil
 | @cons p q ps qs h t ih =>
  rw [map_cons,map_cons];refine .cons ?_ ih;obtain ⟨h1,h2⟩:=h;by_cases e:p.1=k
  .rw [if_pos e,if_pos (h1.symm.trans e)]; exact ⟨h1,ry⟩
  .rw [if_neg e,if_neg (λz=>e (h1.trans z))]; exact ⟨h1,h2⟩
theorem KV.put{kvs:List (κ×V)}{vs:List (κ×Value)}(r:KV kvs vs)(k:κ){y:V}{u:Value}(ry:RelV y u):KV (putK kvs k y) (stored vs k u):=by
 unfold putK stored;rw [r.any k];by_cases e:(vs.any λkv=>decide (kv.1=k))=true
 .rw [if_pos e,if_pos e]; exact r.repl k ry
 .rw [if_neg e,if_neg e]; exact Paired.snoc r ⟨rfl,ry⟩
theorem KV.drop{kvs:List (κ×V)}{vs:List (κ×Value)}(r:KV kvs vs)(k:κ):KV (aAU kvs k) (without vs k):=by
 unfold KV at r ⊢;unfold aAU without
 induction r with
 | nil=>exact .nil
 | @cons p q ps qs h t ih =>
  obtain ⟨h1,h2⟩:=h;rw [filter_cons,filter_cons];by_cases e:p.1=k
  .have a:¬ decide (p.1≠k)=true:=by simp [e]
   have b:¬ decide (q.1≠k)=true:=by simp [h1.symm.trans e]
   rw [if_neg a,if_neg b]; exact ih
  .have e':¬ q.1=k:=λz=>e (h1.trans z);have a:decide (p.1≠k)=true:=by simp [e]
   have b:decide (q.1≠k)=true:=by simp [e']
   rw [if_pos a,if_pos b]; exact .cons ⟨h1,h2⟩ ih
theorem KV.length{kvs:List (κ×V)}{vs:List (κ×Value)}(r:KV kvs vs):kvs.length=vs.length:=Paired.length r
end
theorem uN{P:Program}{w:World}{k:Key}{u:Value}(r:RelV (kV k) u):(bC P w).is k u=true:=by
 cases k with
 | inl i=>obtain ⟨t,e⟩:=(show ∃ t,u=Value.int i t from r); subst e; exact FA P w i t
 | inr x=>obtain ⟨t,e⟩:=(show ∃ t,u=Value.str x t from r); subst e; exact FC P w x t
theorem BA{P:Program}{w:World}:∀ {ks:List Key} {us:List Value},Vals (ks.map kV) us->ItemsAre (bC P w) ks us
 | [],_,r=>by rw [map_nil] at r; cases r; exact .nil
 | k::ks,_,r=>by
  rw [map_cons] at r
  cases r with
  | cons h t=>exact .cons (uN h) (BA t)
noncomputable abbrev KT(H:Hp):List (List Key×V)->List (List Key×Addr×Value)->Prop:=Paired λp q=>p.1=q.1/\H q.2.1=some (.tup (p.1.map kV))/\RelV p.2 q.2.2
theorem KT.val{H:Hp}{kvs:List (List Key×V)}{xs:List (List Key×Addr×Value)}(r:KT H kvs xs)(k:List Key):nW (gE kvs k) ((atKey xs k).map (·.2)):=by
 induction r with
 | nil=>exact True.intro
 | @cons p q ps qs h t ih =>
  obtain ⟨h1,_,h2⟩:=h;by_cases e:p.1=k
  .have e':q.1=k:=h1.symm.trans e;have b:atKey (q::qs) k=some q.2:=by simp [atKey,find?_cons,e']
   rw [fE e,b]; exact h2
  .have e':¬ q.1=k:=λz=>e (h1.trans z);have b:atKey (q::qs) k=atKey qs k:=by simp [atKey,find?_cons,e']
   rw [fF e,b]; exact ih
theorem KT.repl{H:Hp}{kvs:List (List Key×V)}{xs:List (List Key×Addr×Value)}(r:KT H kvs xs)(k:List Key){y:V}{u:Value}(ry:RelV y u) :
  KT H (kvs.map λkv=>if kv.1=k then (kv.1,y) else kv) (xs.map (putAt k u)):=by
 induction r with
 | nil=>exact .nil
 | @cons p q ps qs h t ih =>
  rw [map_cons,map_cons];refine .cons ?_ ih;obtain ⟨h1,h2,h3⟩:=h;unfold putAt;by_cases e:p.1=k
  .rw [if_pos e,if_pos (h1.symm.trans e)]; exact ⟨h1,h2,ry⟩
  .rw [if_neg e,if_neg (λz=>e (h1.trans z))]; exact ⟨h1,h2,h3⟩
theorem KT.put{H:Hp}{kvs:List (List Key×V)}{xs:List (List Key×Addr×Value)}(r:KT H kvs xs)(k:List Key){b:Addr}{y:V}{u:Value}(hb:H b=some (.tup (k.map kV)))(ry:RelV y u) :
  KT H (putK kvs k y) (storedH xs k b u):=by
 have e:(kvs.any λkv=>decide (kv.1=k))=(atKey xs k).isSome:=by rw [n8,(r.val k).pA,Option.isSome_map]
 unfold putK storedH;rw [e];by_cases q:(atKey xs k).isSome=true
 .rw [if_pos q,if_pos q]; exact r.repl k ry
 .rw [if_neg q,if_neg q]; exact Paired.snoc r ⟨rfl,hb,ry⟩
theorem KT.keeps{H H':Hp}{kvs:List (List Key×V)}{xs:List (List Key×Addr×Value)}(r:KT H kvs xs)(ht:∀ b ys,H b=some (.tup ys)->H' b=some (.tup ys)):KT H' kvs xs :=
 Paired.aBE r λ_ _ z=>⟨z.1,ht _ _ z.2.1,z.2.2⟩
section
variable{P:Program}{w:World}{H:Hp}{h:Heap}{a:Addr}
theorem aAV{u:HO}(ok:pT P w H h)(e:Rd H a u):dJ P w H h a u:=e.ok ok
theorem TZ{kvs:List (Key×V)}(ok:pT P w H h)(e:Rd H a (.dK kvs)):kvs.length<=sizeLine/\(a == sysModules)=false /\ ∃ vs,KV kvs vs/\h.DictOf (bC P w) a vs :=
 show dJ P w H h a (.dK kvs) from aAV ok e
theorem aEF{kvs:List (Key×V)}(ok:pT P w H h)(e:H a=some (.dK kvs)):kvs.length<=sizeLine/\(a == sysModules)=false /\ ∃ vs,KV kvs vs/\h.DictOf (bC P w) a vs:=TZ ok (.inl e)
theorem DJ{ks:List Key}(ok:pT P w H h)(e:H a=some (.tup (ks.map kV))):(tupleKind (bC P w)).is h ks a:=by obtain ⟨_,its,r,⟨o,h1,h2,n,h3⟩,_⟩:=(show dJ P w H h a (.tup (ks.map kV)) from ok a _ e);exact ⟨o,its.toArray,n,h1,h2,h3,by simpa using BA r⟩
theorem T4{kvs:List (List Key×V)}(ok:pT P w H h)(e:Rd H a (.dT kvs)):kvs.length<=sizeLine/\(a == sysModules)=false /\
  ∃ xs,KT H kvs xs/\h.DictOfH (tupleKind (bC P w)) a xs:=by
 obtain ⟨z,y,xs,r,o,es,ep,h1,h2,h3,h4,h5⟩:=(show dJ P w H h a (.dT kvs) from aAV ok e);refine ⟨z,y,xs,r,o,es,ep,h1,h2,h3,h4,λx hx=>?_,h5⟩;have all:∀ {l:List (List Key×V)} {m:List (List Key×Addr×Value)},KT H l m -> ∀ x∈m,(tupleKind (bC P w)).is h x.1 x.2.1:=by
  intro l m q
  induction q with
  | nil=>intro x hx; exact nomatch hx
  | @cons p q ps qs hq t ih =>
   intro x hx;rcases List.mem_cons.mp hx with e | hx
   .subst e;exact DJ ok (by rw [<- hq.1]; exact hq.2.1)
   .exact ih x hx
 exact all r x hx
theorem aEG{kvs:List (List Key×V)}(ok:pT P w H h)(e:H a=some (.dT kvs)):kvs.length<=sizeLine/\(a == sysModules)=false /\
  ∃ xs,KT H kvs xs/\h.DictOfH (tupleKind (bC P w)) a xs:=T4 ok (.inl e)
end
noncomputable def FO(H:Hp)(a:Addr)(y:V)(r:Option V):Prop :=
 (∃ kvs k,Rd H a (.dK kvs)/\y=kV k/\r=gE kvs k) \/ ∃ kvs k b,Rd H a (.dT kvs)/\y=.ref b/\H b=some (.tup (k.map kV))/\r=gE kvs k
noncomputable def IP(H:Hp)(a:Addr)(y v:V)(H':Hp):Prop :=
 (∃ kvs k,H a=some (.dK kvs)/\y=kV k/\kvs.length<sizeLine/\H' = upd H a (.dK (putK kvs k v))) \/
 ∃ kvs k b,H a=some (.dT kvs)/\y=.ref b/\H b=some (.tup (k.map kV))/\kvs.length<sizeLine/\H' = upd H a (.dT (putK kvs k v))
theorem FO.k{H:Hp}{a:Addr}{kvs:List (Key×V)}{k:Key}(e:H a=some (.dK kvs)):FO H a (kV k) (gE kvs k):=.inl ⟨kvs,k,.inl e,rfl,rfl⟩
theorem FO.t{H:Hp}{a b:Addr}{kvs:List (List Key×V)}{k:List Key}(e:H a=some (.dT kvs))(eb:H b=some (.tup (k.map kV))):FO H a (.ref b) (gE kvs k):=.inr ⟨kvs,k,b,.inl e,rfl,eb,rfl⟩
theorem IP.k{H:Hp}{a:Addr}{kvs:List (Key×V)}{k:Key}{v:V}(e:H a=some (.dK kvs))(hl:kvs.length<sizeLine):IP H a (kV k) v (upd H a (.dK (putK kvs k v))):=.inl ⟨kvs,k,e,rfl,hl,rfl⟩
theorem IP.t{H:Hp}{a b:Addr}{kvs:List (List Key×V)}{k:List Key}{v:V}(e:H a=some (.dT kvs))(eb:H b=some (.tup (k.map kV)))(hl:kvs.length<sizeLine) :
  IP H a (.ref b) v (upd H a (.dT (putK kvs k v))):=.inr ⟨kvs,k,b,e,rfl,eb,hl,rfl⟩
section
variable{X:Cx}{pins:List (Addr×Obj)}{σ:St}{H:Hp}{s:Shared}{a:Addr}{y v:V}{u r:Value}{o:Option V}{A:Around}{E:Value->Shared->Prop}
theorem Inv.big(I:Inv X pins σ H s):sysModules<s.heap.objs.size:=by have h:mainGlobals<s.heap.objs.size:=(I.mod.glob.keeps I.bk).lt;exact Nat.lt_trans (by decide) h
theorem NZ{Q:Value->Shared->Prop}(hu:A.units+1<cLine)(I:Inv X pins σ H s)(g:FO H a y (some v))(ry:RelV y u)(h:∀ w' s',Inv X pins σ H s'->RelV v w'->Q w' s') :
  wpAny (model X.prog X.w) A (getItem (.ref a) u) Q E s:=by
 rcases g with ⟨kvs,k,e,ey,l⟩ | ⟨kvs,k,b,e,ey,eb,l⟩
 .subst ey;obtain ⟨z,hd,vs,rel,dd⟩:=TZ I.hok e;obtain ⟨w',hw,II⟩:=nW.some_of (v:=v) (o:=valueAt vs k) (by rw [l]; exact rel.val k);exact wpAny_getItem_of (uN ry) dd.mapOf hw (h w' _ (I.tok _) II)
 .subst ey;cases (show u=Value.ref b from ry);obtain ⟨z,hd,xs,rel,dd⟩:=T4 I.hok e;obtain ⟨w',hw,II⟩:=nW.some_of (v:=v) (o:=(atKey xs k).map (·.2)) (by rw [l]; exact rel.val k);obtain ⟨p,hp,hp2⟩:=Option.map_eq_some_iff.mp hw;refine wpAny_getItem_heap (tupleKind_room_in1 hu) (DJ I.hok eb) dd hp ?_;rw [hp2];exact h w' _ (I.tok _) II
theorem vV{h':Heap}{t':Nat}{ob:HO}(I:Inv X pins σ H s)(mu:Mut (H a))(hs:Heap.SameBut a s.heap h')(he:∃ q,h'.get? a=some q)(new:dJ X.prog X.w (upd H a ob) h' a ob) :
  Inv X pins σ (upd H a ob) { s with heap:=h',toks:=t' } :=
 I.write (x:=a) (e:=a) mu (.inl rfl) (λb q hb z=>(hs.2 b hb).trans z) he new
theorem aBm{P:Program}{w:World}{H':Hp}{h':Heap}{kvs:List (Key×V)}{vs:List (Key×Value)}(z:kvs.length<=sizeLine)(hd:(a == sysModules)=false)(rel:KV kvs vs)(dd:h'.DictOf (bC P w) a vs) :
  dJ P w H' h' a (.dK kvs):=⟨z,hd,vs,rel,dd⟩
theorem N0{H':Hp}{Q:Unit->Shared->Prop}(hu:A.units+1<cLine)(I:Inv X pins σ H s)(g:IP H a y v H')(ry:RelV y u)(rv:RelV v r)(h:∀ s',Inv X pins σ H' s'->Q () s') :
  wpAny (model X.prog X.w) A (setItem (.ref a) u r) Q E s:=by
 rcases g with ⟨kvs,k,e,ey,l,eH⟩ | ⟨kvs,k,b,e,ey,eb,l,eH⟩
 .subst ey eH;obtain ⟨z,hd,vs,rel,dd⟩:=aEF I.hok e;have hz:vs.length<=sizeLine:=by rw [<- rel.length]; exact z
  have hl:(putK kvs k v).length<=sizeLine:=by have:=uM kvs k v; omega
  refine wpAny_setItem_pairs (hsz:=hz) (uN ry) dd λh' dd' hs=>h _ ?_;have he:∃ q,h'.get? a=some q:=let ⟨q,_,_,hq,_⟩:=dd'; ⟨q,hq⟩;exact vV I (by rw [e]; exact True.intro) hs he (aBm hl hd (rel.put k rv) dd')
 .subst ey eH;cases (show u=Value.ref b from ry);obtain ⟨z,hd,xs,rel,dd⟩:=aEG I.hok e;have hz:xs.length<=sizeLine:=by rw [<- Paired.length rel]; exact z
  have hl:(putK kvs k v).length<=sizeLine:=by have:=uM kvs k v; omega
  refine wpAny_setItem_heap (hsz:=hz) (tupleKind_room_in1 hu) (DJ I.hok eb) dd λh' dd' hs=>h _ ?_;obtain ⟨q,es,ep,hq,h2,h3,h4,_,h5⟩:=dd';refine vV I (by rw [e]; exact True.intro) hs ⟨q,hq⟩ ⟨hl,hd,_,(rel.put k eb rv).keeps λc ys ec=>?_,q,es,ep,hq,h2,h3,h4,h5⟩;rw [bA (aAM ec e (λz=>nomatch z))];exact ec
end
section
variable{X:Cx}{pins:List (Addr×Obj)}{σ:St}{H:Hp}{s:Shared}{a:Addr}{kvs:List (Key×V)}{k:Key}{u:Value}{A:Around}{E:Value->Shared->Prop}
end
noncomputable def IQ(i:Expr):Prop:=∀ ov iv,subscripted i false ov iv=operate [ov,iv] (getItem ov iv)
theorem LR{prog:Program}{w:World}{A:Around}{E:Value->Shared->Prop}{s:Shared}{env:Env}{value slice:Expr}{pos:Pos}{T id:String}{Q:Value->Shared->Prop}
  (hl:typeLookup (.type T) "__getitem__" = pure (some (.builtin id))) (hs:IQ slice)
  (h:wpAny (model prog w) A (eval value env) (λo s₁=>wpAny (model prog w) A (eval slice env) (λi s₂=>s₂.TypeIs o T/\wpAny (model prog w) A (getItem o i) Q E s₂) E s₁) E s) :
  wpAny (model prog w) A (eval (.Subscript value slice pos) env) Q E s:=by
 refine Subscript_ (wpAny_mono h (λo s₁ h₁=>wpAny_mono h₁ (λi s₂ h₂=>?_) λ_ _ x=>x) λ_ _ x=>x);obtain ⟨hT,h₂⟩:=h₂;unfold subscriptTail;refine wpAny_bind ?_;rw [getitemInPython_of_ne hT.not_modules];refine wpAny_bind (wpAny_specialOf hT hl ?_);have fin:wpAny (model prog w) A (subscripted slice false o i) (λr s₃=>wpAny (model prog w) A (letTemporaryGo value o r >>= λ_=>pure r) Q E s₃) E s₂:=by rw [hs o i];exact wpAny_operating (wpAny_mono h₂ (λr s₃ h₃=>wpAny_bind (wpAny_letTemporaryGo (wpAny_pure h₃))) λ_ _ x=>x)
 first
  | exact wpAny_pure (wpAny_bind fin)
  | exact wpAny_bind (wpAny_pure (wpAny_bind fin))
  | exact wpAny_bind fin
theorem FP{X:Cx}{pins:List (Addr×Obj)}{σ:St}{H:Hp}{s:Shared}{a:Addr}{y:V}{o:Option V}(I:Inv X pins σ H s)(g:FO H a y o):s.TypeIs (.ref a) "dict" := by
 rcases g with ⟨kvs,k,e,_,_⟩ | ⟨kvs,k,b,e,_,_,_⟩
 .obtain ⟨_,_,vs,_,dd⟩:=TZ I.hok e;exact dd.typeIs
 .obtain ⟨_,_,xs,_,dd⟩:=T4 I.hok e;exact dd.typeIs
noncomputable def aEH(td ty:TE):TE:=λσ H Q=>td σ H λx H1=>ty σ H1 λy H2=>∃ a v,x=.ref a/\FO H2 a y (some v)/\Q v H2
noncomputable def aEI(td ty tv:TE):TS:=λD σ H=>tv σ H λv H1=>td σ H1 λx H2=>ty σ H2 λy H3=>∃ a H4,x=.ref a/\IP H3 a y v H4/\D.nx σ H4
section
variable{X:Cx}{o i e value:Expr}{pos pos' tpos:Pos}{td ty tv:TE}
theorem YW(hu:X.A.units+1<cLine)(ho:PE X o td)(hi:PE X i ty)(hs:IQ i):PE X (.Subscript o i pos) (aEH td ty):=by intro pins s σ H Q I h;refine LR PySem.F.slot_dict_getitem.lookup hs (eS (ho pins s σ H _ I h) λu s1 ⟨x,H1,I1,rx,q1⟩=>eS (hi pins s1 σ H1 _ I1 q1) λiv s2 ⟨y,H2,I2,ry,a,v,ex,g,q2⟩=>?_);subst ex;obtain rfl:u=Value.ref a:=rx;exact ⟨FP I2 g,NZ hu I2 g ry λw' s3 I3 II=>⟨v,H2,I3,II,q2⟩⟩
theorem YX(hu:X.A.units+1<cLine)(ho:PE X o td)(hi:PE X i ty)(hv:PE X value tv)(hs:swapsWith value (some (.Subscript o i pos')) pos.line X.env=pure false) :
  PS X (.Assign [.Subscript o i pos'] value pos) (aEI td ty tv):=by
 intro pins s σ H D I h;refine wpAny_Assign_Subscript (eS (hv pins s σ H _ I h) λr s1 ⟨v,H1,I1,rv,q1⟩=>eS (ho pins s1 σ H1 _ I1 q1) λu s2 ⟨x,H2,I2,rx,q2⟩=>eS (hi pins s2 σ H2 _ I2 q2) λiv s3 ⟨y,H3,I3,ry,a,H4,ex,g,q3⟩=>?_) hs;subst ex;obtain rfl:u=Value.ref a:=rx;exact N0 hu I3 g ry rv λs4 I4=>⟨σ,H4,I4,q3⟩
end
theorem T5{P:Program}{w:World}{H:Hp}(h:Heap)(hb:sysModules<h.objs.size):dJ P w H (h.push { cls:=.type "dict",data:=.dict #[] }) h.objs.size (.dK []) :=
 ⟨Nat.zero_le _,beq_eq_false_iff_ne.mpr (Ne.symm (Nat.ne_of_lt hb)),[],.nil,Heap.DictOf.new h⟩
noncomputable def aBn:TE:=λ_ H Q=>∀ p,H p=none->Q (.ref p) (upd H p (.dK []))
section
variable{X:Cx}{pos:Pos}
theorem T6:PE X (.Dict [] [] pos) aBn:=λpins s σ H Q I h =>
 wpAny_Dict_empty ⟨.ref s.heap.objs.size,_,I.laid (a:=s.heap.objs.size) (o:=.dK []) (t':=s.toks) (λ_ _ q=>Heap.get?_push_of_some _ q) (Nat.le_refl _) (T5 s.heap I.big),rfl,h _ (I.hok.fresh (Nat.le_refl _))⟩
end
section
variable{X:Cx}{pins:List (Addr×Obj)}{σ:St}{H:Hp}{s:Shared}{a:Addr}{y d:V}{u r:Value}{o:Option V}{A:Around}{E:Value->Shared->Prop}
end
section
variable{X:Cx}{o e f:Expr}{apos cpos:Pos}{td ty tx:TE}
end
section
variable{X:Cx}{pins:List (Addr×Obj)}{σ:St}{H:Hp}{s:Shared}{a:Addr}{kvs:List (Key×V)}{A:Around}{E:Value->Shared->Prop}
end
section
variable{X:Cx}{pins:List (Addr×Obj)}{σ:St}{H:Hp}{s:Shared}{a:Addr}{y:V}{u:Value}{A:Around}{E:Value->Shared->Prop}
end
end L2
namespace L2
open PySem PySem.Spec PyProof.Rows
section
variable{X:Cx}
end
section
variable{κ:Type}[DecidableEq κ]
end
end L2
end
section
namespace L3
open PySem L2
noncomputable def Scr(K:PySem.W.Frag)(H:Hp)(a:Addr)(ns:List Int):Prop:=(∃ o,H a=some (.xX o (.lst (ns.map V.int))))\/eO K (λ_=>none) a (ns.map V.int)
mutual
noncomputable def Dn(K:PySem.W.Frag)(S:Addr->Prop)(H:Hp):D->V->Prop
 | .non,v=>v=.non
 | .bl b,v=>v=.bl b
 | .int i,v=>v=.int i
 | .str x,v=>v=.str x
 | .tup ds,v=>∃ a xs,v=.ref a/\H a=some (.tup xs)/\aP K S H ds xs
 | .lst ds,v=>∃ a xs,v=.ref a/\H a=some (.lst xs)/\S a/\aP K S H ds xs
 | .kZ ns,v=>∃ a,v=.ref a/\Scr K H a ns
 | .kA ks ds,v=>∃ a xs,v=.ref a/\H a=some (.dK (ks.zip xs))/\S a/\ks.length=xs.length/\aP K S H ds xs
 | .eD q ks ds,v=>∃ a o kvs,v=.ref a/\H a=some (.dX o kvs)/\S a/\(kvs.map (·.1)=ks/\q a o)/\aP K S H ds (kvs.map (·.2.2))
 | .exc _ a,v=>v=.ref a
noncomputable def aP(K:PySem.W.Frag)(S:Addr->Prop)(H:Hp):List D->List V->Prop
 | [],xs=>xs=[]
 | d::ds,xs=>∃ v r,xs=v::r/\Dn K S H d v/\aP K S H ds r
end
structure Fits (K:PySem.W.Frag) (S S':Addr->Prop) (H H':Hp):Prop where
 t:∀ a xs,H a=some (.tup xs)->H' a=some (.tup xs)
 s:∀ a ns,Scr K H a ns->Scr K H' a ns
 l:∀ a xs,H a=some (.lst xs)->S a->H' a=some (.lst xs)/\S' a
 d:∀ a xs,H a=some (.dK xs)->S a->H' a=some (.dK xs)/\S' a
 e:∀ a o xs,H a=some (.dX o xs)->S a->H' a=some (.dX o xs)/\S' a
section
variable{K:PySem.W.Frag}{S S':Addr->Prop}{H H':Hp}
mutual
theorem Dn.fits(f:Fits K S S' H H'):∀ (d:D) (v:V),Dn K S H d v->Dn K S' H' d v
 | .non,v,h=>by simpa only [Dn] using h
 | .bl b,v,h=>by simpa only [Dn] using h
 | .int i,v,h=>by simpa only [Dn] using h
 | .str x,v,h=>by simpa only [Dn] using h
 | .tup ds,v,h=>by simp only [Dn] at h ⊢;obtain ⟨a,xs,e,q,r⟩:=h;exact ⟨a,xs,e,f.t a xs q,aP.fits f ds xs r⟩
 | .lst ds,v,h=>by simp only [Dn] at h ⊢;obtain ⟨a,xs,e,q,s,r⟩:=h;obtain ⟨q',s'⟩:=f.l a xs q s;exact ⟨a,xs,e,q',s',aP.fits f ds xs r⟩
 | .kZ ns,v,h=>by simp only [Dn] at h ⊢;obtain ⟨a,e,q⟩:=h;exact ⟨a,e,f.s a ns q⟩
 | .kA ks ds,v,h=>by simp only [Dn] at h ⊢;obtain ⟨a,xs,e,q,s,l,r⟩:=h;obtain ⟨q',s'⟩:=f.d a _ q s;exact ⟨a,xs,e,q',s',l,aP.fits f ds xs r⟩
 | .eD _ ks ds,v,h=>by simp only [Dn] at h ⊢;obtain ⟨a,o,kvs,e,q,s,l,r⟩:=h;obtain ⟨q',s'⟩:=f.e a _ _ q s;exact ⟨a,o,kvs,e,q',s',l,aP.fits f ds _ r⟩
 | .exc _ _,v,h=>by simpa only [Dn] using h
theorem aP.fits(f:Fits K S S' H H'):∀ (ds:List D) (xs:List V),aP K S H ds xs->aP K S' H' ds xs
 | [],xs,h=>by simpa only [aP] using h
 | d::ds,xs,h=>by simp only [aP] at h ⊢;obtain ⟨v,r,e,h1,h2⟩:=h;exact ⟨v,r,e,Dn.fits f d v h1,aP.fits f ds r h2⟩
end
mutual
theorem Dn.N2:∀ (d:D) (v:V),d.AB=true->Dn K S H d v->Dn K S' H d v
 | .non,v,_,h=>by simpa only [Dn] using h
 | .bl b,v,_,h=>by simpa only [Dn] using h
 | .int i,v,_,h=>by simpa only [Dn] using h
 | .str x,v,_,h=>by simpa only [Dn] using h
 | .tup ds,v,hi,h=>by simp only [Dn] at h ⊢;obtain ⟨a,xs,e,q,r⟩:=h;exact ⟨a,xs,e,q,aP.N2 ds xs (by simpa only [D.AB] using hi) r⟩
 | .lst _,v,hi,h=>by simp only [D.AB] at hi; cases hi
 | .kZ ns,v,_,h=>by simpa only [Dn] using h
 | .kA _ _,v,hi,h=>by simp only [D.AB] at hi; cases hi
 | .eD _ _ _,v,hi,h=>by simp only [D.AB] at hi; cases hi
 | .exc _ _,v,_,h=>by simpa only [Dn] using h
theorem aP.N2:∀ (ds:List D) (xs:List V),qZ ds=true->aP K S H ds xs->aP K S' H ds xs
 | [],xs,_,h=>by simpa only [aP] using h
 | d::ds,xs,hi,h=>by simp only [qZ,Bool.and_eq_true] at hi;simp only [aP] at h ⊢;obtain ⟨v,r,e,h1,h2⟩:=h;exact ⟨v,r,e,Dn.N2 d v hi.1 h1,aP.N2 ds r hi.2 h2⟩
end
theorem Dn.AB{d:D}(hi:d.AB=true){v:V}(h:Dn K S H d v):Dn K S' H d v:=Dn.N2 d v hi h
theorem aP.AB{ds:List D}(hi:qZ ds=true){xs:List V}(h:aP K S H ds xs):aP K S' H ds xs:=aP.N2 ds xs hi h
theorem eO.some{a:Addr}{xs:List V}(h:eO K (λ_=>none) a xs):eO K H a xs:=by
 rcases h with (h | ⟨o,h⟩) | h
 .cases h
 .cases h
 .exact .inr h
theorem Scr.sq{a:Addr}{ns:List Int}(h:Scr K H a ns):eO K H a (ns.map V.int):=by
 rcases h with ⟨o,h⟩ | h
 .exact .inl (.inr ⟨o,h⟩)
 .exact eO.some h
noncomputable def Wr(H:Hp)(p:Addr):Prop:=(∃ xs,H p=some (.lst xs))\/(∃ xs,H p=some (.dK xs)) \/ ∃ o xs,H p=some (.dX o xs)
theorem Wr.tup{p a:Addr}{o:HO}{xs:List V}(w:Wr H p)(h:H a=some (.tup xs)):upd H p o a=some (.tup xs):=by
 rw [bA]
 .exact h
 .intro e;subst e;rcases w with ⟨ys,w⟩ | ⟨ys,w⟩ | ⟨_,ys,w⟩<;>rw [h] at w<;>cases w
theorem Wr.kZ{p a:Addr}{o:HO}{ns:List Int}(w:Wr H p)(h:Scr K H a ns):Scr K (upd H p o) a ns:=by
 rcases h with ⟨ob,h⟩ | h
 .refine .inl ⟨ob,?_⟩;rw [bA]
  .exact h
  .intro e;subst e;rcases w with ⟨ys,w⟩ | ⟨ys,w⟩ | ⟨_,ys,w⟩<;>rw [h] at w<;>cases w
 .exact .inr h
theorem Fits.same(e:Same H H'):Fits K S S H H' :=
 ⟨λa xs h=>e _ _ h,λa ns h=>h.elim (λ⟨o,h⟩=>.inl ⟨o,e _ _ h⟩) .inr,λa xs h s=>⟨e _ _ h,s⟩,λa xs h s=>⟨e _ _ h,s⟩,λa _ xs h s=>⟨e _ _ h,s⟩⟩
theorem Fits.mono(m:∀ a,S a->S' a):Fits K S S' H H :=
 ⟨λ_ _ h=>h,λ_ _ h=>h,λa _ h s=>⟨h,m a s⟩,λa _ h s=>⟨h,m a s⟩,λa _ _ h s=>⟨h,m a s⟩⟩
theorem Fits.fresh{p:Addr}(hp:H p=none):Fits K S (λa=>S a/\a≠p) H H :=
 ⟨λ_ _ h=>h,λ_ _ h=>h,λa _ h s=>⟨h,s,bO h hp⟩,λa _ h s=>⟨h,s,bO h hp⟩,λa _ _ h s=>⟨h,s,bO h hp⟩⟩
theorem Fits.upd{p:Addr}{o:HO}(w:Wr H p)(hs:¬ S p):Fits K S S H (upd H p o):=by have ne:∀ a,S a->a≠p:=λa s e=>hs (e▸s);exact ⟨λa xs h=>w.tup h,λa ns h=>w.kZ h,λa xs h s=>⟨by rw [bA (ne a s)]; exact h,s⟩,λa xs h s=>⟨by rw [bA (ne a s)]; exact h,s⟩,λa _ xs h s=>⟨by rw [bA (ne a s)]; exact h,s⟩⟩
theorem Fits.trans{S'':Addr->Prop}{H'':Hp}(a:Fits K S S' H H')(b:Fits K S' S'' H' H''):Fits K S S'' H H'' :=
 ⟨λx xs h=>b.t x xs (a.t x xs h),λx ns h=>b.s x ns (a.s x ns h),λx xs h s=>let ⟨h1,s1⟩:=a.l x xs h s; b.l x xs h1 s1,λx xs h s=>let ⟨h1,s1⟩:=a.d x xs h s; b.d x xs h1 s1,λx o xs h s=>let ⟨h1,s1⟩:=a.e x o xs h s; b.e x o xs h1 s1⟩
theorem aR{p:Addr}{o:HO}(hp:H p=none):Same H (upd H p o):=λb u h=>by rw [bA (bO h hp)]; exact h
theorem aP.len:∀ {ds:List D} {xs:List V},aP K S H ds xs->ds.length=xs.length
 | [],xs,h=>by simp only [aP] at h; subst h; rfl
 | d::ds,xs,h=>by simp only [aP] at h;obtain ⟨v,r,e,_,h2⟩:=h;subst e;simp [aP.len h2]
theorem aP.get:∀ {ds:List D} {xs:List V} {i:Nat} {d:D},aP K S H ds xs->ds[i]? = some d -> ∃ v,xs[i]? = some v/\Dn K S H d v
 | [],xs,i,d,h,e=>by simp at e
 | d::ds,xs,i,d',h,e=>by
  simp only [aP] at h;obtain ⟨v,r,e1,h1,h2⟩:=h;subst e1
  cases i with
  | zero=>simp at e; subst e; exact ⟨v,by simp,h1⟩
  | succ i =>
   obtain ⟨u,e2,q⟩:=aP.get (i:=i) (d:=d') h2 (by simpa using e);exact ⟨u,by simpa using e2,q⟩
theorem aP.nil:aP K S H [] []:=by simp only [aP]
theorem aP.cons{d:D}{ds:List D}{v:V}{xs:List V}(h:Dn K S H d v)(t:aP K S H ds xs):aP K S H (d::ds) (v::xs):=by simp only [aP]; exact ⟨v,xs,rfl,h,t⟩
theorem aP.bV{d:D}{ds:List D}{xs:List V}(h:aP K S H (d::ds) xs):∃ v r,xs=v::r/\Dn K S H d v/\aP K S H ds r:=by simpa only [aP] using h
theorem aP.append:∀ {ds es:List D} {xs ys:List V},aP K S H ds xs->aP K S H es ys->aP K S H (ds++es) (xs++ys)
 | [],es,xs,ys,h,g=>by simp only [aP] at h; subst h; exact g
 | d::ds,es,xs,ys,h,g=>by obtain ⟨v,r,e,h1,h2⟩:=h.bV;subst e;exact aP.cons h1 (aP.append h2 g)
theorem aP.one{d:D}{v:V}(h:Dn K S H d v):aP K S H [d] [v]:=aP.cons h aP.nil
theorem aP.take:∀ {ds:List D} {xs:List V} (n:Nat),aP K S H ds xs->aP K S H (ds.take n) (xs.take n)
 | _,_,0,_=>by simp [aP.nil]
 | [],xs,n+1,h=>by simp only [aP] at h; subst h; simp [aP.nil]
 | d::ds,xs,n+1,h=>by obtain ⟨v,r,e,h1,h2⟩:=h.bV;subst e;simpa using aP.cons h1 (aP.take n h2)
theorem aP.drop:∀ {ds:List D} {xs:List V} (n:Nat),aP K S H ds xs->aP K S H (ds.drop n) (xs.drop n)
 | _,_,0,h=>by simpa using h
 | [],xs,n+1,h=>by simp only [aP] at h; subst h; simp [aP.nil]
 | d::ds,xs,n+1,h=>by obtain ⟨v,r,e,h1,h2⟩:=h.bV;subst e;simpa using aP.drop n h2
theorem aP.set:∀ {ds:List D} {xs:List V} {d:D} {v:V} (n:Nat),Dn K S H d v->aP K S H ds xs->aP K S H (ds.set n d) (xs.set n v)
 | [],xs,d,v,n,h,g=>by simp only [aP] at g; subst g; simp [aP.nil]
 | d::ds,xs,d',v',n,h,g=>by
  obtain ⟨v,r,e,h1,h2⟩:=g.bV;subst e
  cases n with
  | zero=>exact aP.cons h h2
  | succ n=>exact aP.cons h1 (aP.set n h h2)
theorem aP.erase:∀ {ds:List D} {xs:List V} (n:Nat),aP K S H ds xs->aP K S H (ds.eraseIdx n) (xs.eraseIdx n)
 | [],xs,n,g=>by simp only [aP] at g; subst g; simp [aP.nil]
 | d::ds,xs,n,g=>by
  obtain ⟨v,r,e,h1,h2⟩:=g.bV;subst e
  cases n with
  | zero=>exact h2
  | succ n=>exact aP.cons h1 (aP.erase n h2)
theorem aP.insert:∀ {ds:List D} {xs:List V} {d:D} {v:V} (n:Nat),Dn K S H d v->aP K S H ds xs->aP K S H (ds.take n++d::ds.drop n) (xs.take n++v::xs.drop n) :=
 λn h g=>aP.append (aP.take n g) (aP.cons h (aP.drop n g))
theorem aP.ints:∀ {ns:List Int} {xs:List V},aP K S H (ns.map D.int) xs↔xs=ns.map V.int
 | [],xs=>by simp [aP]
 | n::ns,xs=>by
  rw [map_cons,map_cons]
  constructor
  .intro h;obtain ⟨v,r,e,h1,h2⟩:=h.bV;simp only [Dn] at h1;rw [e,h1,aP.ints.mp h2]
  .intro e;rw [e];exact aP.cons (by simp only [Dn]) (aP.ints.mpr rfl)
theorem lD:∀ ns:List Int,qZ (ns.map D.int)=true
 | []=>rfl
 | n::ns=>by rw [map_cons,qZ,lD ns]; rfl
end
noncomputable def Sl(K:PySem.W.Frag)(S:Addr->Prop)(H:Hp)(ρ:cJ)(σ:St):Prop:=∀ (i:Nat) (d:D),ρ[i]? = some (some d) -> ∃ v,σ[i]? = some (some v)/\Dn K S H d v
theorem Sl.fits{K:PySem.W.Frag}{S S':Addr->Prop}{H H':Hp}{ρ:cJ}{σ:St}(f:Fits K S S' H H')(h:Sl K S H ρ σ):Sl K S' H' ρ σ:=λi d e =>
 let ⟨v,e1,q⟩:=h i d e; ⟨v,e1,Dn.fits f d v q⟩
noncomputable def yC(K:PySem.W.Frag)(S:Addr->Prop)(H:Hp)(d:D)(p:Addr):Prop :=
 match d with
 | .lst ds=>∃ xs,H p=some (.lst xs)/\aP K S H ds xs
 | .kA ks ds=>∃ xs,H p=some (.dK (ks.zip xs))/\ks.length=xs.length/\aP K S H ds xs
 | .eD q ks ds=>∃ o kvs,H p=some (.dX o kvs)/\(kvs.map (·.1)=ks/\q p o)/\aP K S H ds (kvs.map (·.2.2))
 | _=>False
noncomputable def SO(S:Addr->Prop)(w:Nat->Addr)(ρ:aS):Addr->Prop:=λa=>S a /\ ∀ (i:Nat) (d:D),ρ[i]? = some (Sv.ow d)->a≠w i
structure ST (K:PySem.W.Frag) (H₀:Hp) (S:Addr->Prop) (w:Nat->Addr) (σ:St) (H:Hp) (ρ:aS) (G:List (D×V)):Prop where
 fc:∀ a,H₀ a=none->S a
 sm:Same H₀ H
 own:∀ (i:Nat) (d:D),ρ[i]? = some (Sv.ow d)->σ[i]? = some (some (.ref (w i)))/\H₀ (w i)=none/\yC K (SO S w ρ) H d (w i)
 inj:∀ (i j:Nat) (d e:D),ρ[i]? = some (Sv.ow d)->ρ[j]? = some (Sv.ow e)->w i=w j->i=j
 ro:∀ (i:Nat) (d:D),ρ[i]? = some (Sv.ro d) -> ∃ v,σ[i]? = some (some v)/\Dn K (SO S w ρ) H d v
 gh:∀ g∈G,Dn K (SO S w ρ) H g.1 g.2
section
variable{K:PySem.W.Frag}{H₀ H H':Hp}{S S':Addr->Prop}{w:Nat->Addr}{σ:St}{ρ:aS}{G:List (D×V)}
theorem yC.wr{d:D}{p:Addr}(h:yC K S H d p):Wr H p:=by
 cases d with
 | lst ds=>obtain ⟨xs,e,_⟩:=h; exact .inl ⟨_,e⟩
 | kA ks ds=>obtain ⟨xs,e,_⟩:=h; exact .inr (.inl ⟨_,e⟩)
 | eD q0 ks ds=>obtain ⟨o,kvs,e,_⟩:=h; exact .inr (.inr ⟨_,_,e⟩)
 | _=>exact False.elim h
theorem yC.dn{d:D}{p:Addr}(h:yC K S H d p)(hs:S' p)(m:∀ a,S a->S' a):Dn K S' H d (.ref p):=by
 cases d with
 | lst ds=>obtain ⟨xs,e,q⟩:=h; simp only [Dn]; exact ⟨p,xs,rfl,e,hs,aP.fits (.mono m) ds xs q⟩
 | kA ks ds=>obtain ⟨xs,e,l,q⟩:=h; simp only [Dn]; exact ⟨p,xs,rfl,e,hs,l,aP.fits (.mono m) ds xs q⟩
 | eD q0 ks ds=>obtain ⟨o,kvs,e,l,q⟩:=h; simp only [Dn]; exact ⟨p,o,kvs,rfl,e,hs,l,aP.fits (.mono m) ds _ q⟩
 | _=>exact False.elim h
theorem yC.fits{d:D}{p:Addr}(f:Fits K S S' H H')(hp:∀ o,H p=some o->H' p=some o)(h:yC K S H d p):yC K S' H' d p:=by
 cases d with
 | lst ds=>obtain ⟨xs,e,q⟩:=h; exact ⟨xs,hp _ e,aP.fits f ds xs q⟩
 | kA ks ds=>obtain ⟨xs,e,l,q⟩:=h; exact ⟨xs,hp _ e,l,aP.fits f ds xs q⟩
 | eD q0 ks ds=>obtain ⟨o,kvs,e,l,q⟩:=h; exact ⟨o,kvs,hp _ e,l,aP.fits f ds _ q⟩
 | _=>exact False.elim h
theorem ST.QQ(h:ST K H₀ S w σ H ρ G):∀ a,H a=none->S a:=λa e=>h.fc a (h.sm.free e)
theorem ST.QR(h:ST K H₀ S w σ H ρ G):∀ a,H a=none->SO S w ρ a:=λa e=>⟨h.QQ a e,λi d q z=>by have wr:=(h.own i d q).2.2.wr;subst z;rcases wr with ⟨xs,k⟩ | ⟨xs,k⟩ | ⟨_,xs,k⟩<;>rw [e] at k<;>cases k⟩
theorem zS{i:Nat}{d:D}(h:(bU ρ)[i]? = some (some d)):ρ[i]? = some (Sv.ro d)\/ρ[i]? = some (Sv.ow d):=by
 unfold bU at h;rw [getElem?_map] at h
 cases e:ρ[i]? with
 | none=>rw [e] at h; cases h
 | some s =>
  rw [e] at h
  cases s with
  | no=>cases h
  | ro d'=>cases h; exact .inl rfl
  | ow d'=>cases h; exact .inr rfl
theorem DK{i:Nat}{d:D}(h:(kC ρ)[i]? = some (some d)):ρ[i]? = some (Sv.ro d):=by
 unfold kC at h;rw [getElem?_map] at h
 cases e:ρ[i]? with
 | none=>rw [e] at h; cases h
 | some s =>
  rw [e] at h
  cases s with
  | no=>cases h
  | ro d'=>cases h; rfl
  | ow d'=>cases h
theorem ST.all(h:ST K H₀ S w σ H ρ G):Sl K S H (bU ρ) σ:=λi d e=>by
 rcases zS e with e | e
 .obtain ⟨v,e1,q⟩:=h.ro i d e;exact ⟨v,e1,Dn.fits (.mono λ_ z=>z.1) d v q⟩
 .obtain ⟨e1,e2,q⟩:=h.own i d e;exact ⟨_,e1,q.dn (h.fc _ e2) λ_ z=>z.1⟩
theorem ST.rd(h:ST K H₀ S w σ H ρ G):Sl K (SO S w ρ) H (kC ρ) σ:=λi d e=>h.ro i d (DK e)
theorem ST.same(h:ST K H₀ S w σ H ρ G)(e:Same H H'):ST K H₀ S w σ H' ρ G :=
 ⟨h.fc,h.sm.trans e,λi d q=>let ⟨a,b,c⟩:=h.own i d q; ⟨a,b,c.fits (.same e) λo z=>e _ o z⟩,h.inj,λi d q=>let ⟨v,a,b⟩:=h.ro i d q; ⟨v,a,Dn.fits (.same e) d v b⟩,λg hg=>Dn.fits (.same e) _ _ (h.gh g hg)⟩
theorem SO.mono{ρ':aS}(hw:∀ (i:Nat) (d:D),ρ'[i]? = some (Sv.ow d) -> ∃ e,ρ[i]? = some (Sv.ow e)):∀ a,SO S w ρ a->SO S w ρ' a:=λa hq6=>by obtain ⟨s,n⟩:=hq6; exact ⟨s,λi d e=>let ⟨d',e'⟩:=hw i d e; n i d' e'⟩
theorem get_set{α:Type}{l:List α}{i j:Nat}{x y:α}(h:(l.set i x)[j]? = some y):(j=i/\y=x/\i<l.length)\/(j≠i/\l[j]? = some y):=by
 by_cases e:j=i
 .subst e;by_cases hl:j<l.length
  .rw [getElem?_set_self hl] at h;exact .inl ⟨rfl,(Option.some.inj h).symm,hl⟩
  .rw [getElem?_eq_none (by simp; omega)] at h;cases h
 .rw [getElem?_set_ne (Ne.symm e)] at h;exact .inr ⟨e,h⟩
theorem ST.mN{i:Nat}{d:D}{v:V}(h:ST K H₀ S w σ H ρ G)(hi:i<σ.length)(q:Dn K (SO S w ρ) H d v):ST K H₀ S w (σ.set i (some v)) H (ρ.set i (.ro d)) G:=by
 have hw:∀ (j:Nat) (e:D),(ρ.set i (.ro d))[j]? = some (Sv.ow e)->j≠i/\ρ[j]? = some (Sv.ow e):=λj e he=>by
  rcases get_set he with ⟨_,z,_⟩ | z
  .cases z
  .exact z
 have m:∀ a,SO S w ρ a->SO S w (ρ.set i (.ro d)) a:=SO.mono λj e he=>⟨e,(hw j e he).2⟩;refine ⟨h.fc,h.sm,λj e he=>?_,λj k d' e' h1 h2=>h.inj j k d' e' (hw j d' h1).2 (hw k e' h2).2,λj e he=>?_,λg hg=>Dn.fits (.mono m) _ _ (h.gh g hg)⟩
 .obtain ⟨hj,he'⟩:=hw j e he;obtain ⟨a,b,c⟩:=h.own j e he';exact ⟨by rw [getElem?_set_ne (Ne.symm hj)]; exact a,b,c.fits (.mono m) λ_ z=>z⟩
 .rcases get_set he with ⟨hj,z,_⟩ | ⟨hj,z⟩
  .cases z;subst hj;exact ⟨v,getElem?_set_self hi,Dn.fits (.mono m) d v q⟩
  .obtain ⟨u,a,b⟩:=h.ro j e z;exact ⟨u,by rw [getElem?_set_ne (Ne.symm hj)]; exact a,Dn.fits (.mono m) e u b⟩
noncomputable def freeze(ρ:aS)(i:Nat):aS:=match ρ[i]? with
 | some (.ow d)=>ρ.set i (.ro d)
 | _=>ρ
theorem ST.frozen{i:Nat}(h:ST K H₀ S w σ H ρ G):ST K H₀ S w σ H (freeze ρ i) G:=by
 unfold freeze
 cases e:ρ[i]? with
 | none=>exact h
 | some s =>
  cases s with
  | no=>exact h
  | ro d=>exact h
  | ow d =>
   dsimp only;obtain ⟨a,b,c⟩:=h.own i d e;have hi:i<σ.length:=(List.getElem?_eq_some_iff.mp a).1;have hw:∀ (j:Nat) (e:D),(ρ.set i (.ro d))[j]? = some (Sv.ow e)->j≠i/\ρ[j]? = some (Sv.ow e):=λj e he=>by
    rcases get_set he with ⟨_,z,_⟩ | z
    .cases z
    .exact z
   have m:∀ a,SO S w ρ a->SO S w (ρ.set i (.ro d)) a:=SO.mono λj e he=>⟨e,(hw j e he).2⟩;refine ⟨h.fc,h.sm,λj f hf=>?_,λj k d' e' h1 h2=>h.inj j k d' e' (hw j d' h1).2 (hw k e' h2).2,λj f hf=>?_,λg hg=>Dn.fits (.mono m) _ _ (h.gh g hg)⟩
   .obtain ⟨a,b,c⟩:=h.own j f (hw j f hf).2;exact ⟨a,b,c.fits (.mono m) λ_ z=>z⟩
   .rcases get_set hf with ⟨hj,z,_⟩ | ⟨hj,z⟩
    .cases z;subst hj;refine ⟨_,a,c.dn ⟨h.fc _ b,λk f' hk z=>?_⟩ m⟩;obtain ⟨hk1,hk2⟩:=hw k f' hk;exact hk1 (h.inj _ _ _ _ e hk2 z).symm
    .obtain ⟨u,a,b⟩:=h.ro j f z;exact ⟨u,a,Dn.fits (.mono m) f u b⟩
theorem ST.IS{i:Nat}{d:D}{p:Addr}(h:ST K H₀ S w σ H ρ G)(hi:i<σ.length)(e:Same H H')(hp:H p=none)(q:yC K (λa=>SO S w ρ a/\a≠p) H' d p) :
  ST K H₀ S (λj=>if j=i then p else w j) (σ.set i (some (.ref p))) H' (ρ.set i (.ow d)) G:=by
 have h0:H₀ p=none:=h.sm.free hp;have hw:∀ (j:Nat) (e:D),j≠i->(ρ.set i (.ow d))[j]? = some (Sv.ow e)->ρ[j]? = some (Sv.ow e):=λj e hj he=>by
  rcases get_set he with ⟨z,_,_⟩ | ⟨_,z⟩
  .exact absurd z hj
  .exact z
 have m:∀ a,(SO S w ρ a/\a≠p)->SO S (λj=>if j=i then p else w j) (ρ.set i (.ow d)) a:=λa ⟨⟨s,n⟩,ne⟩=>⟨s,λj f hf=>by
  show a≠(if j=i then p else w j);by_cases hj:j=i
  .rw [if_pos hj]; exact ne
  .rw [if_neg hj]; exact n j f (hw j f hj hf)⟩
 have F:Fits K (SO S w ρ) (SO S (λj=>if j=i then p else w j) (ρ.set i (.ow d))) H H':=((Fits.fresh hp).trans (.mono m)).trans (.same e);have wp:∀ (j:Nat) (f:D),ρ[j]? = some (Sv.ow f)->w j≠p:=λj f hf z=>by have wr:=(h.own j f hf).2.2.wr;rw [z] at wr;rcases wr with ⟨xs,k⟩ | ⟨xs,k⟩ | ⟨_,xs,k⟩<;>rw [hp] at k<;>cases k
 refine ⟨h.fc,h.sm.trans e,λj f hf=>?_,λj k d' e' h1 h2 z=>?_,λj f hf=>?_,λg hg=>Dn.fits F _ _ (h.gh g hg)⟩
 .by_cases hj:j=i
  .subst hj;rcases get_set hf with ⟨_,z,_⟩ | ⟨z,_⟩
   .cases z;rw [if_pos rfl];exact ⟨getElem?_set_self hi,h0,q.fits (.mono m) λ_ z=>z⟩
   .exact absurd rfl z
  .rw [if_neg hj];obtain ⟨a,b,c⟩:=h.own j f (hw j f hj hf);exact ⟨by rw [getElem?_set_ne (Ne.symm hj)]; exact a,b,c.fits F λo z=>e _ o z⟩
 .have z:(if j=i then p else w j)=(if k=i then p else w k):=z;by_cases hj:j=i
  .by_cases hk:k=i
   .rw [hj,hk]
   .rw [if_pos hj,if_neg hk] at z;exact absurd z.symm (wp k e' (hw k e' hk h2))
  .by_cases hk:k=i
   .rw [if_neg hj,if_pos hk] at z;exact absurd z (wp j d' (hw j d' hj h1))
   .rw [if_neg hj,if_neg hk] at z;exact h.inj j k d' e' (hw j d' hj h1) (hw k e' hk h2) z
 .rcases get_set hf with ⟨_,z,_⟩ | ⟨hj,z⟩
  .cases z
  .obtain ⟨u,a,b⟩:=h.ro j f z;exact ⟨u,by rw [getElem?_set_ne (Ne.symm hj)]; exact a,Dn.fits F f u b⟩
theorem ST.write{i:Nat}{d d':D}{o:HO}(h:ST K H₀ S w σ H ρ G)(e:ρ[i]? = some (Sv.ow d))(q:yC K (SO S w ρ) (upd H (w i) o) d' (w i)):ST K H₀ S w σ (upd H (w i) o) (ρ.set i (.ow d')) G:=by
 obtain ⟨a0,b0,c0⟩:=h.own i d e;have so:SO S w (ρ.set i (.ow d'))=SO S w ρ:=by
  funext a
  refine propext ⟨λ⟨s,n⟩=>⟨s,λj f hf=>?_⟩,λ⟨s,n⟩=>⟨s,λj f hf=>?_⟩⟩
  .by_cases hj:j=i
   .subst hj;exact n j d' (by rw [getElem?_set_self (List.getElem?_eq_some_iff.mp e).1])
   .exact n j f (by rw [getElem?_set_ne (Ne.symm hj)]; exact hf)
  .by_cases hj:j=i
   .subst hj; exact n j d e
   .exact n j f (by rw [getElem?_set_ne (Ne.symm hj)] at hf; exact hf)
 have nS:¬ SO S w ρ (w i):=λ⟨_,n⟩=>n i d e rfl;have F:Fits K (SO S w ρ) (SO S w ρ) H (upd H (w i) o):=.upd c0.wr nS;refine ⟨h.fc,λb u hb=>?_,λj f hf=>?_,λj k d1 e1 h1 h2 z=>?_,λj f hf=>?_,λg hg=>by rw [so]; exact Dn.fits F _ _ (h.gh g hg)⟩
 .rw [bA (bO hb b0)];exact h.sm b u hb
 .rw [so];rcases get_set hf with ⟨hj,z,_⟩ | ⟨hj,z⟩
  .cases z;subst hj;exact ⟨a0,b0,q⟩
  .obtain ⟨a,b,c⟩:=h.own j f z;exact ⟨a,b,c.fits F λob hob=>by rw [bA λy=>hj (h.inj _ _ _ _ z e y)]; exact hob⟩
 .have g1:∃ d2,ρ[j]? = some (Sv.ow d2):=by
   rcases get_set h1 with ⟨hj,_,_⟩ | ⟨_,z⟩
   .subst hj; exact ⟨d,e⟩
   .exact ⟨_,z⟩
  have g2:∃ d2,ρ[k]? = some (Sv.ow d2):=by
   rcases get_set h2 with ⟨hj,_,_⟩ | ⟨_,z⟩
   .subst hj; exact ⟨d,e⟩
   .exact ⟨_,z⟩
  obtain ⟨_,g1⟩:=g1;obtain ⟨_,g2⟩:=g2;exact h.inj j k _ _ g1 g2 z
 .rw [so];rcases get_set hf with ⟨_,z,_⟩ | ⟨hj,z⟩
  .cases z
  .obtain ⟨u,a,b⟩:=h.ro j f z;exact ⟨u,a,Dn.fits F f u b⟩
theorem ST.ghost(h:ST K H₀ S w σ H ρ G){G':List (D×V)}(hg:∀ g∈G',Dn K (SO S w ρ) H g.1 g.2):ST K H₀ S w σ H ρ G':=⟨h.fc,h.sm,h.own,h.inj,h.ro,hg⟩
end
end L3
end
section
namespace L3
open PySem PySem.Spec PyProof.Rows L2
noncomputable abbrev WE:=cJ->(D->Prop)->Prop
noncomputable abbrev WT:=cJ->(Bool->Prop)->Prop
noncomputable abbrev WA:=cJ->(List D->Prop)->Prop
noncomputable def lift(K:PySem.W.Frag)(t:WE):TE:=λσ H Q=>∃ (S:Addr->Prop) (ρ:cJ) (Q3:D->Prop),(∀ a,H a=none->S a)/\Sl K S H ρ σ/\t ρ Q3 /\ ∀ v H' d,Same H H'->Dn K S H' d v->Q3 d->Q v H'
noncomputable def liftT(K:PySem.W.Frag)(t:WT):TT:=λσ H Q=>∃ (S:Addr->Prop) (ρ:cJ) (Q3:Bool->Prop),(∀ a,H a=none->S a)/\Sl K S H ρ σ/\t ρ Q3 /\ ∀ b H',Same H H'->Q3 b->Q b H'
noncomputable def T7(K:PySem.W.Frag)(t:WA):TA:=λσ H Q=>∃ (S:Addr->Prop) (ρ:cJ) (Q3:List D->Prop),(∀ a,H a=none->S a)/\Sl K S H ρ σ/\t ρ Q3 /\ ∀ vs H' ds,Same H H'->aP K S H' ds vs->Q3 ds->Q vs H'
noncomputable def T8(K:PySem.W.Frag)(t:WE):TE:=λσ H Q=>∃ (S:Addr->Prop) (ρ:cJ) (Q3:D->Prop),(∀ a,H a=none->S a)/\Sl K S H ρ σ/\t ρ Q3 /\
 ∀ p xs H' ds,H p=none->H' p=some (.lst xs)->Same H H'->aP K (λa=>S a/\a≠p) H' ds xs->Q3 (.lst ds)->Q (.ref p) H'
noncomputable def dF(X:Cx)(e:Expr)(t:WE):Prop:=PE X e (lift X.K t)
noncomputable def IT(X:Cx)(e:Expr)(t:WE):Prop:=PE X e (T8 X.K t)
noncomputable def zE(X:Cx)(e:Expr)(t:WT):Prop:=PT X e (liftT X.K t)
noncomputable def BB(X:Cx)(es:List Expr)(t:WA):Prop:=PA X es (T7 X.K t)
section
variable{X:Cx}
theorem imp{e:Expr}{t t':TE}(h:PE X e t)(f:∀ σ H Q,t' σ H Q->t σ H Q):PE X e t':=λpins s σ H Q I q=>h pins s σ H Q I (f σ H Q q)
theorem T9{e:Expr}{t t':TT}(h:PT X e t)(f:∀ σ H Q,t' σ H Q->t σ H Q):PT X e t':=λpins s σ H Q I q=>h pins s σ H Q I (f σ H Q q)
theorem UA{e:List Expr}{t t':TA}(h:PA X e t)(f:∀ σ H Q,t' σ H Q->t σ H Q):PA X e t':=λpos pins s σ H Q I q=>h pos pins s σ H Q I (f σ H Q q)
theorem cH{H H':Hp}{S:Addr->Prop}(fc:∀ a,H a=none->S a)(s:Same H H'):∀ a,H' a=none->S a:=λa e=>fc a (s.free e)
theorem IT.pe{e:Expr}{t:WE}(h:IT X e t):dF X e t:=imp h λσ H Q hq7=>by obtain ⟨S,ρ,Q3,fc,sl,ht,k⟩:=hq7;exact ⟨S,ρ,Q3,fc,sl,ht,λp xs H' ds hp hp' s dn q=>k _ H' _ s (by simp only [Dn]; exact ⟨p,xs,rfl,hp',fc p hp,aP.fits (.mono λ_ z=>z.1) ds xs dn⟩) q⟩
noncomputable def YY(i:Nat):WE:=λρ Q=>match ρ[i]? with
 | some (some d)=>Q d
 | _=>False
noncomputable def wC(d:D):WE:=λ_ Q=>Q d
theorem UB{K:PySem.W.Frag}{i:Nat}{σ:L2.St}{H:Hp}{Q:VK}(h:lift K (YY i) σ H Q):SR i σ H Q:=by
 obtain ⟨S,ρ,Q3,fc,sl,ht,k⟩:=h;unfold YY at ht;split at ht
 .rename_i d e;obtain ⟨v,e1,q⟩:=sl i d e;exact ⟨v,e1,k v H d (Same.refl H) q ht⟩
 .exact ht.elim
theorem x3(i:Nat){x:Str}{pos:Pos}(hN:X.N[i]? = some x:=by rfl)(hv:AZ X.env.scope x:=by first | exact Or.inl rfl | exact Or.inr (Or.inl rfl) | exact Or.inr (Or.inr rfl))(hd:(x == ("__debug__" : Str))=false:=by decide)
  (hcd:(x == ("__classdict__" : Str))=false:=by decide):dF X (.Name x pos) (YY i):=imp (nZ hN hv hd hcd) λ_ _ _=>UB
theorem IU{K:PySem.W.Frag}{d:D}{v:V}{σ:L2.St}{H:Hp}{Q:VK}(hd:∀ S H,Dn K S H d v)(h:lift K (wC d) σ H Q):tC v σ H Q:=by obtain ⟨S,ρ,Q3,fc,sl,ht,k⟩:=h;exact k v H d (Same.refl H) (hd S H) ht
theorem i3{i:Int}{j pos}:dF X (.Constant (.int i) j pos) (wC (.int i)):=imp aBG λ_ _ _=>IU (λ_ _=>by simp only [Dn])
theorem b3{b:Bool}{j pos}:dF X (.Constant (.bool b) j pos) (wC (.bl b)):=imp aD9 λ_ _ _=>IU (λ_ _=>by simp only [Dn])
theorem n3{j pos}:dF X (.Constant .none j pos) (wC .non):=imp aBH λ_ _ _=>IU (λ_ _=>by simp only [Dn])
noncomputable abbrev F2:=D->D->(D->Prop)->Prop
noncomputable def hJ(f:F2)(ta tb:WE):WE:=λρ Q=>ta ρ λx=>tb ρ λy=>f x y Q
noncomputable def O3(K:PySem.W.Frag)(r:R2)(f:F2):Prop:=∀ (S:Addr->Prop) (H:Hp) (x y:V) (dx dy:D) (Q3:D->Prop) (Q:VK),(∀ a,H a=none->S a)->Dn K S H dx x->Dn K S H dy y->f dx dy Q3 ->
 (∀ v H' d,Same H H'->Dn K S H' d v->Q3 d->Q v H')->r x y H Q
theorem rZ{K:PySem.W.Frag}{r:R2}{f:F2}{ta tb:WE}{σ:L2.St}{H:Hp}{Q:VK}(h3:O3 K r f)(h:lift K (hJ f ta tb) σ H Q):tOp r (lift K ta) (lift K tb) σ H Q:=by obtain ⟨S,ρ,Q3,fc,sl,ht,k⟩:=h;refine ⟨S,ρ,_,fc,sl,ht,λv H1 d s1 d1 q1=>?_⟩;refine ⟨S,ρ,_,cH fc s1,Sl.fits (.same s1) sl,q1,λu H2 d2 s2 d2' q2=>?_⟩;exact h3 S H2 v u d d2 Q3 Q (cH fc (s1.trans s2)) (Dn.fits (.same s2) _ _ d1) d2' q2 λv' H' d' s' dn' q'=>k v' H' d' ((s1.trans s2).trans s') dn' q'
theorem op3{a b:Expr}{op:Operator}{pos:Pos}{r:R2}{f:F2}{ta tb:WE}(ho:nC X (binaryOp op) r)(h3:O3 X.K r f)(ha:dF X a ta)(hb:dF X b tb):dF X (.BinOp a op b pos) (hJ f ta tb) :=
 imp (S6 ho ha hb) λ_ _ _=>rZ h3
noncomputable def N3(C:Int->Int->Prop)(g:Int->Int->D):F2
 | .int i,.int j,Q=>C i j/\Q (g i j)
 | _,_,_=>False
theorem DL{K:PySem.W.Frag}{C:Int->Int->Prop}{g:Int->Int->Int}:O3 K (rI C λi j=>.int (g i j)) (N3 C λi j=>.int (g i j)):=by
 intro S H x y dx dy Q3 Q fc hx hy hf k;cases dx<;>cases dy<;>try exact hf.elim
 simp only [Dn] at hx hy;exact ⟨_,_,hx,hy,hf.1,k _ H _ (Same.refl H) (by simp only [Dn]) hf.2⟩
noncomputable def yD(g:Int->Int->D):F2
 | .int i,.int j,Q=>Q (g i j)
 | _,_,_=>False
theorem YZ{K:PySem.W.Frag}{g:Int->Int->Int}:O3 K (W4 λi j=>.int (g i j)) (yD λi j=>.int (g i j)):=by
 intro S H x y dx dy Q3 Q fc hx hy hf k;cases dx<;>cases dy<;>try exact hf.elim
 simp only [Dn] at hx hy;exact ⟨_,_,hx,hy,k _ H _ (Same.refl H) (by simp only [Dn]) hf⟩
noncomputable def aHz:F2:=yD λi j=>.int (i - j)
noncomputable def aIA:F2:=N3 (λ_ j=>0<j) λi j=>.int (i % j)
noncomputable def aIB:F2:=N3 aDq λi j=>.int (i / j)
noncomputable def aIC:F2:=N3 aDr λi j=>.int (i ^ j.toNat)
section
variable{a b:Expr}{pos:Pos}{ta tb:WE}
theorem aID(ha:dF X a ta)(hb:dF X b tb):dF X (.BinOp a .Sub b pos) (hJ aHz ta tb):=op3 aB0 YZ ha hb
theorem aIE(ha:dF X a ta)(hb:dF X b tb):dF X (.BinOp a .Mod b pos) (hJ aIA ta tb):=op3 aB1 DL ha hb
theorem aIF(ha:dF X a ta)(hb:dF X b tb):dF X (.BinOp a .FloorDiv b pos) (hJ aIB ta tb):=op3 YH DL ha hb
theorem aIG(ha:dF X a ta)(hb:dF X b tb):dF X (.BinOp a .Pow b pos) (hJ aIC ta tb):=op3 aB2 DL ha hb
end
noncomputable def aAY(K:PySem.W.Frag):R2:=λx y H Q=>∃ a b xs ys,x=.ref a/\y=.ref b/\gR K H a xs/\gR K H b ys/\xs.length+ys.length<=sizeLine /\
 (xs=[]->Q (.ref b) H)/\(xs≠[]->ys=[]->Q (.ref a) H)/\(xs≠[]->ys≠[] -> ∀ p,H p=none->Q (.ref p) (upd H p (.tup (xs++ys))))
theorem UC{prog:Program}{w:World}{A:Around}{E:Value->Shared->Prop}{s:Shared}{t b:Addr}{ws:List Value}{Q:Value->Shared->Prop}(ht:IsTup s.heap t #[])(hb:IsTup s.heap b ws.toArray)
  (h1:Q (.ref b) s):wpAny (model prog w) A (binaryOp .Add (.ref t) (.ref b)) Q E s:=by
 obtain ⟨⟨cls,dd,data,sl⟩,ho,hc,n,hd⟩:=id ht;obtain ⟨⟨cls2,dd2,data2,sl2⟩,ho2,hc2,n2,hd2⟩:=id hb;simp only at hc hd hc2 hd2;subst hc hd hc2 hd2;exact concat_meets ⟨_,ho,rfl⟩ ⟨_,ho2,rfl⟩ noFill_tuple_add seq_tuple_add PySem.F.slot_tuple_add PySem.F.entry_tuple_add (PySem.F.args_tuple_add_2 _ _)
   (tuple_addW0 t b #[] ws.toArray n n2 dd dd2 sl sl2 (by simp)) ⟨ho,ho2,h1⟩
theorem UD:nC X (binaryOp .Add) (aAY X.K):=by
 intro pins s σ H x y v u Q I rx ry h;obtain ⟨a,b,xs,ys,rfl,rfl,ha,hb,hz,q0,q1,q2⟩:=h;by_cases hx:xs=[]
 .cases rx;cases ry;subst hx;obtain ⟨its,r1,p1,_⟩:=I.tuple ha;obtain ⟨its2,r2,p2,_⟩:=I.tuple hb;cases r1;exact UC p1 p2 ⟨.ref b,H,I,rfl,q0 rfl⟩
 .exact YR pins s σ H _ _ v u Q I rx ry ⟨a,b,xs,ys,rfl,rfl,ha,hb,hx,hz,q1 hx,q2 hx⟩
noncomputable def aBo:F2
 | .int i,.int j,Q=>Q (.int (i+j))
 | .lst a,.lst b,Q=>a.length+b.length<=sizeLine/\Q (.lst (a++b))
 | .tup a,.tup b,Q=>a.length+b.length<=sizeLine/\Q (.tup (a++b))
 | .str a,.str b,Q=>a.length+b.length<=sizeLine/\Q (.str (a++b))
 | _,_,_=>False
noncomputable def aEJ(K:PySem.W.Frag):R2:=λx y H Q=>(W4 λi j=>.int (i+j)) x y H Q\/(aED x y H Q\/(aAY K x y H Q \/ ∃ i j,x=.str i/\y=.str j/\i.length+j.length<=sizeLine/\Q (.str (i++j)) H))
theorem aBp{K:PySem.W.Frag}:O3 K (aEJ K) aBo:=by
 intro S H x y dx dy Q3 Q fc hx hy hf k
 cases dx with
 | int i =>
  cases dy with
  | int j=>simp only [Dn] at hx hy; exact .inl ⟨_,_,hx,hy,k _ H _ (Same.refl H) (by simp only [Dn]) hf⟩
  | _=>exact hf.elim
 | str i =>
  cases dy with
  | str j=>simp only [Dn] at hx hy; exact .inr (.inr (.inr ⟨_,_,hx,hy,hf.1,k _ H _ (Same.refl H) (by simp only [Dn]) hf.2⟩))
  | _=>exact hf.elim
 | lst ds =>
  cases dy with
  | lst es =>
   simp only [Dn] at hx hy;obtain ⟨a,xs,rfl,ha,sa,da⟩:=hx;obtain ⟨b,ys,rfl,hb,sb,db⟩:=hy;refine .inr (.inl ⟨a,b,xs,ys,rfl,rfl,ha,hb,by rw [<- da.len,<- db.len]; exact hf.1,λp hp=>k _ _ _ (aR hp) ?_ hf.2⟩);simp only [Dn];exact ⟨p,_,rfl,aV,fc p hp,aP.fits (.same (aR hp)) _ _ (da.append db)⟩
  | _=>exact hf.elim
 | tup ds =>
  cases dy with
  | tup es =>
   simp only [Dn] at hx hy;obtain ⟨a,xs,rfl,ha,da⟩:=hx;obtain ⟨b,ys,rfl,hb,db⟩:=hy;refine .inr (.inr (.inl ⟨a,b,xs,ys,rfl,rfl,gR.of ha,gR.of hb,by rw [<- da.len,<- db.len]; exact hf.1,λe=>?_,λ_ e=>?_,λ_ _ p hp=>?_⟩))
   .subst e;have e2:ds=[]:=List.length_eq_zero_iff.mp da.len;subst e2;exact k _ H _ (Same.refl H) (by simp only [Dn]; exact ⟨b,ys,rfl,hb,db⟩) hf.2
   .subst e;have e2:es=[]:=List.length_eq_zero_iff.mp db.len;subst e2;have q:=hf.2;rw [append_nil] at q;exact k _ H _ (Same.refl H) (by simp only [Dn]; exact ⟨a,xs,rfl,ha,da⟩) q
   .refine k _ _ _ (aR hp) ?_ hf.2;simp only [Dn];exact ⟨p,_,rfl,aV,aP.fits (.same (aR hp)) _ _ (da.append db)⟩
  | _=>exact hf.elim
 | _=>cases dy<;>exact hf.elim
theorem Y0:nC X (binaryOp .Add) (aEJ X.K):=nC.or aBZ (nC.or TQ (nC.or UD IF))
theorem aIH{a b:Expr}{pos:Pos}{ta tb:WE}(ha:dF X a ta)(hb:dF X b tb):dF X (.BinOp a .Add b pos) (hJ aBo ta tb):=op3 Y0 aBp ha hb
noncomputable def aEK:F2
 | .lst a,.lst b,Q=>a.length+b.length<=sizeLine/\Q (.lst (a++b))
 | _,_,_=>False
theorem aEL{a b:Expr}{pos:Pos}{ta tb:WE}(ha:dF X a ta)(hb:dF X b tb):IT X (.BinOp a .Add b pos) (hJ aEK ta tb):=imp (S6 TQ ha hb) λσ H Q h=>by
 obtain ⟨S,ρ,Q3,fc,sl,ht,k⟩:=h;refine ⟨S,ρ,_,fc,sl,ht,λv H1 d s1 d1 q1=>?_⟩;refine ⟨S,ρ,_,cH fc s1,Sl.fits (.same s1) sl,q1,λu H2 d2 s2 d2' q2=>?_⟩;cases d<;>cases d2<;>try exact q2.elim
 simp only [Dn] at d1 d2';obtain ⟨a,xs,rfl,ha,sa,da⟩:=d1;obtain ⟨b,ys,rfl,hb,sb,db⟩:=d2';have da':=aP.fits (.same s2) _ _ da;refine ⟨a,b,xs,ys,rfl,rfl,s2 _ _ ha,hb,by rw [<- da.len,<- db.len]; exact q2.1,λp hp=>k p _ _ _ ((s1.trans s2).free hp) aV ((s1.trans s2).trans (aR hp)) ?_ q2.2⟩;exact aP.fits ((Fits.fresh hp).trans (.same (aR hp))) _ _ (da'.append db)
noncomputable def aIJ:WA:=λ_ Q=>Q []
noncomputable def aEM(ta:WE)(t:WA):WA:=λρ Q=>ta ρ λd=>t ρ λds=>Q (d::ds)
theorem aIK:BB X [] aIJ:=UA qJ λσ H Q hq8=>by obtain ⟨S,ρ,Q3,fc,sl,ht,k⟩:=hq8; exact k [] H [] (Same.refl H) aP.nil ht
theorem aEN{e:Expr}{es:List Expr}{te:WE}{t:WA}(ha:dF X e te)(hr:BB X es t)(hs:starEach (e::es) X.env=(false,eval e X.env)::starEach es X.env:=by rfl):BB X (e::es) (aEM te t) :=
 UA (iE ha hr hs) λσ H Q hq9=>by obtain ⟨S,ρ,Q3,fc,sl,ht,k⟩:=hq9;refine ⟨S,ρ,_,fc,sl,ht,λv H1 d s1 d1 q1=>?_⟩;refine ⟨S,ρ,_,cH fc s1,Sl.fits (.same s1) sl,q1,λus H2 ds s2 d2 q2=>?_⟩;exact k _ H2 _ (s1.trans s2) (aP.cons (Dn.fits (.same s2) _ _ d1) d2) q2
noncomputable def aIM(t:WA):WE:=λρ Q=>t ρ λds=>ds.length<=sizeLine/\Q (.tup ds)
noncomputable def aIN(t:WA):WE:=λρ Q=>t ρ λds=>ds.length<=sizeLine/\Q (.lst ds)
theorem aIO{es:List Expr}{t:WA}{x1}{pos:Pos}(h:BB X es t):dF X (.Tuple es x1 pos) (aIM t):=imp (aB8 h) λσ H Q aIP=>by obtain ⟨S,ρ,Q3,fc,sl,ht,k⟩:=aIP;refine ⟨S,ρ,_,fc,sl,ht,λvs H1 ds s1 d1 q1=>⟨by rw [<- d1.len]; exact q1.1,λp hp=>k _ _ _ (s1.trans (aR hp)) ?_ q1.2⟩⟩;simp only [Dn];exact ⟨p,_,rfl,aV,aP.fits (.same (aR hp)) _ _ d1⟩
theorem aIQ{es:List Expr}{t:WA}{pos:Pos}(h:BB X es t):IT X (.List es pos) (aIN t):=imp (aB9 h) λσ H Q aIR=>by obtain ⟨S,ρ,Q3,fc,sl,ht,k⟩:=aIR;refine ⟨S,ρ,_,fc,sl,ht,λvs H1 ds s1 d1 q1=>⟨by rw [<- d1.len]; exact q1.1,λp hp=>k p vs _ ds (s1.free hp) aV (s1.trans (aR hp)) ?_ q1.2⟩⟩;exact aP.fits ((Fits.fresh hp).trans (.same (aR hp))) _ _ d1
end
section
variable{X:Cx}
noncomputable def pU(t:WE):WT:=λρ Q=>t ρ λd=>match d with
 | .bl b=>Q b
 | _=>False
theorem N4{K:PySem.W.Frag}{t:WE}{σ:L2.St}{H:Hp}{Q:Bool->Hp->Prop}(h:liftT K (pU t) σ H Q):LJ (lift K t) σ H Q:=by
 obtain ⟨S,ρ,Q3,fc,sl,ht,k⟩:=h;refine ⟨S,ρ,_,fc,sl,ht,λv H1 d s1 d1 q1=>?_⟩
 cases d with
 | bl b=>simp only [Dn] at d1; exact ⟨b,d1,k b H1 s1 q1⟩
 | _=>exact q1.elim
theorem IV{t t':TE}{σ:L2.St}{H:Hp}{Q:Bool->Hp->Prop}(f:∀ σ H Q,t' σ H Q->t σ H Q)(h:LJ t' σ H Q):LJ t σ H Q:=f σ H _ h
theorem Y1{a b:Expr}{op:CmpOp}{pos:Pos}{r:R2}{f:F2}{ta tb:WE}(ho:nC X (compareOp op) r)(h3:O3 X.K r f)(ha:dF X a ta)(hb:dF X b tb)(hm:behindInMarks op b=false):dF X (.Compare a [op] [b] pos) (hJ f ta tb) :=
 imp (YI ho ha hb hm) λ_ _ _=>rZ h3
theorem yE{a b:Expr}{op:CmpOp}{pos:Pos}{r:R2}{f:F2}{ta tb:WE}(ho:nC X (compareOp op) r)(h3:O3 X.K r f)(ha:dF X a ta)(hb:dF X b tb)(hm:behindInMarks op b=false):zE X (.Compare a [op] [b] pos) (pU (hJ f ta tb)) :=
 T9 (YJ ho ha hb hm) λ_ _ _ h=>IV (λ_ _ _=>rZ h3) (N4 h)
theorem IW{K:PySem.W.Frag}{g:Int->Int->Bool}:O3 K (W4 λi j=>.bl (g i j)) (yD λi j=>.bl (g i j)):=by
 intro S H x y dx dy Q3 Q fc hx hy hf k;cases dx<;>cases dy<;>try exact hf.elim
 simp only [Dn] at hx hy;exact ⟨_,_,hx,hy,k _ H _ (Same.refl H) (by simp only [Dn]) hf⟩
noncomputable def UE:D->D->Bool
 | .non,.non=>true | .non,.int _=>true | .int _,.non=>true | .non,.bl _=>true | .bl _,.non=>true | .non,.str _=>true | .str _,.non=>true
 | .int _,.int _=>true | .bl _,.bl _=>true | .str _,.str _=>true | .int _,.str _=>true | .str _,.int _=>true | .bl _,.str _=>true | .str _,.bl _=>true
 | _,_=>false
noncomputable def eqS:D->D->Bool
 | .non,.non=>true
 | .int i,.int j=>decide (i=j)
 | .bl i,.bl j=>decide (i=j)
 | .str i,.str j=>decide (i=j)
 | _,_=>false
noncomputable def Y2:F2:=λx y Q=>UE x y=true/\Q (.bl (eqS x y))
noncomputable def Y3:F2:=λx y Q=>UE x y=true/\Q (.bl (!eqS x y))
theorem LS{K:PySem.W.Frag}{S:Addr->Prop}{H:Hp}{x y:V}{dx dy:D}(hx:Dn K S H dx x)(hy:Dn K S H dy y)(h:UE dx dy=true):aB4 x y=true/\decide (x=y)=eqS dx dy:=by
 cases dx<;>first
  | (exact absurd (show false=true from h) Bool.false_ne_true)
  | skip
 all_goals (cases dy<;>first
  | (exact absurd (show false=true from h) Bool.false_ne_true)
  | (simp only [Dn] at hx hy; subst hx; subst hy; exact ⟨rfl,by first | exact C7 | exact ID | exact C8 | exact decide_eq_false (λh=>by cases h) | exact decide_eq_true rfl⟩))
theorem UG{K:PySem.W.Frag}:O3 K rEq Y2:=by intro S H x y dx dy Q3 Q fc hx hy hf k;obtain ⟨h1,h2⟩:=LS hx hy hf.1;exact ⟨h1,k _ H _ (Same.refl H) (by simp only [Dn]; rw [h2]) hf.2⟩
theorem UH{K:PySem.W.Frag}:O3 K rNe Y3:=by intro S H x y dx dy Q3 Q fc hx hy hf k;obtain ⟨h1,h2⟩:=LS hx hy hf.1;exact ⟨h1,k _ H _ (Same.refl H) (by simp only [Dn]; rw [h2]) hf.2⟩
noncomputable def allI:List D->Bool
 | []=>true
 | .int _::r=>allI r
 | _::_=>false
noncomputable def zT(i:Int):List D->Bool
 | []=>false
 | .int j::r=>j == i||zT i r
 | _::r=>zT i r
theorem BC:∀ ns:List Int,allI (ns.map D.int)=true
 | []=>rfl
 | n::ns=>by rw [map_cons]; exact BC ns
theorem BD(i:Int):∀ ns:List Int,zT i (ns.map D.int)=ns.contains i
 | []=>rfl
 | n::ns=>by rw [map_cons,zT,BD i ns,List.contains_cons];congr 1;exact Bool.beq_comm
theorem DM:∀ {ds:List D},allI ds=true -> ∃ ns:List Int,ds=ns.map D.int
 | [],_=>⟨[],rfl⟩
 | .int n::r,h=>by obtain ⟨ns,e⟩:=DM (ds:=r) h;exact ⟨n::ns,by rw [e]; rfl⟩
 | .non::r,h=>absurd (show false=true from h) Bool.false_ne_true
 | .bl _::r,h=>absurd (show false=true from h) Bool.false_ne_true
 | .str _::r,h=>absurd (show false=true from h) Bool.false_ne_true
 | .tup _::r,h=>absurd (show false=true from h) Bool.false_ne_true
 | .lst _::r,h=>absurd (show false=true from h) Bool.false_ne_true
 | .kZ _::r,h=>absurd (show false=true from h) Bool.false_ne_true
 | .kA _ _::r,h=>absurd (show false=true from h) Bool.false_ne_true
 | .eD _ _ _::r,h=>absurd (show false=true from h) Bool.false_ne_true
noncomputable def inF(neg:Bool):F2
 | .int i,.tup ds,Q=>allI ds=true/\Q (.bl (if neg then !zT i ds else zT i ds))
 | .int i,.lst ds,Q=>allI ds=true/\Q (.bl (if neg then !zT i ds else zT i ds))
 | _,_,_=>False
theorem yF(i:Int):∀ ns:List Int,inV (.int i) (ns.map V.int)=zT i (ns.map D.int)
 | []=>rfl
 | n::ns=>by have e:=yF i ns;unfold inV at e ⊢;rw [map_cons,map_cons,any_cons,zT,e];rfl
theorem tP:∀ ns:List Int,(ns.map V.int).all rX=true
 | []=>rfl
 | n::ns=>by rw [map_cons,all_cons,tP ns]; rfl
theorem aAZ{K:PySem.W.Frag}{neg:Bool}:O3 K (rIn K neg) (inF neg):=by
 intro S H x y dx dy Q3 Q fc hx hy hf k
 cases dx with
 | int i =>
  simp only [Dn] at hx;subst hx
  cases dy with
  | tup ds =>
   simp only [Dn] at hy;obtain ⟨a,xs,rfl,ha,da⟩:=hy;obtain ⟨h1,h2⟩:=hf;obtain ⟨ns,rfl⟩:=DM h1;have e:=aP.ints.mp da;subst e;refine ⟨a,_,rfl,.inr (gR.of ha),rfl,tP ns,k _ H _ (Same.refl H) ?_ h2⟩;simp only [Dn];rw [yF]
  | lst ds =>
   simp only [Dn] at hy;obtain ⟨a,xs,rfl,ha,_,da⟩:=hy;obtain ⟨h1,h2⟩:=hf;obtain ⟨ns,rfl⟩:=DM h1;have e:=aP.ints.mp da;subst e;refine ⟨a,_,rfl,.inl (eO.of ha),rfl,tP ns,k _ H _ (Same.refl H) ?_ h2⟩;simp only [Dn];rw [yF]
  | _=>exact hf.elim
 | _=>cases dy<;>exact hf.elim
section
variable{a b:Expr}{pos:Pos}{ta tb:WE}
noncomputable def ltF:F2:=yD λi j=>.bl (decide (i<j))
noncomputable def gtF:F2:=yD λi j=>.bl (decide (i>j))
noncomputable def geF:F2:=yD λi j=>.bl (decide (i >= j))
theorem aIT(ha:dF X a ta)(hb:dF X b tb):dF X (.Compare a [.Eq] [b] pos) (hJ Y2 ta tb):=Y1 aAN UG ha hb (mK _)
theorem aIU(ha:dF X a ta)(hb:dF X b tb):dF X (.Compare a [.NotEq] [b] pos) (hJ Y3 ta tb):=Y1 aAO UH ha hb (mK _)
theorem in3(ha:dF X a ta)(hb:dF X b tb)(hm:behindInMarks .In b=false:=by with_unfolding_all rfl):dF X (.Compare a [.In] [b] pos) (hJ (inF false) ta tb):=Y1 NU aAZ ha hb hm
theorem aIV(ha:dF X a ta)(hb:dF X b tb):zE X (.Compare a [.Lt] [b] pos) (pU (hJ ltF ta tb)):=yE aDs IW ha hb (mK _)
theorem aIW(ha:dF X a ta)(hb:dF X b tb):zE X (.Compare a [.Gt] [b] pos) (pU (hJ gtF ta tb)):=yE aDt IW ha hb (mK _)
theorem aIX(ha:dF X a ta)(hb:dF X b tb):zE X (.Compare a [.GtE] [b] pos) (pU (hJ geF ta tb)):=yE aDu IW ha hb (mK _)
theorem aEO(ha:dF X a ta)(hb:dF X b tb):zE X (.Compare a [.Eq] [b] pos) (pU (hJ Y2 ta tb)):=yE aAN UG ha hb (mK _)
theorem aEP(ha:dF X a ta)(hb:dF X b tb):zE X (.Compare a [.NotEq] [b] pos) (pU (hJ Y3 ta tb)):=yE aAO UH ha hb (mK _)
theorem aEQ(ha:dF X a ta)(hb:dF X b tb)(hm:behindInMarks .NotIn b=false:=by with_unfolding_all rfl):zE X (.Compare a [.NotIn] [b] pos) (pU (hJ (inF true) ta tb)):=yE DG aAZ ha hb hm
end
noncomputable def isD:D->Bool
 | .non=>true
 | _=>false
noncomputable def Y4:F2:=λx y Q=>isD y=true/\Q (.bl (isD x))
theorem UI{K:PySem.W.Frag}:O3 K (λx y H Q=>y=.non/\Q (.bl (decide (x=.non))) H) Y4:=by
 intro S H x y dx dy Q3 Q fc hx hy hf k;obtain ⟨h1,h2⟩:=hf;cases dy<;>try exact absurd (show false=true from h1) Bool.false_ne_true
 simp only [Dn] at hy;refine ⟨hy,k _ H _ (Same.refl H) ?_ h2⟩;cases dx<;>simp only [Dn] at hx ⊢
 all_goals first
  | (subst hx; simp [isD])
  | (obtain ⟨a,xs,rfl,_⟩:=hx; simp [isD])
  | (obtain ⟨a,_,xs,rfl,_⟩:=hx; simp [isD])
  | (obtain ⟨a,rfl,_⟩:=hx; simp [isD])
theorem aER{a b:Expr}{pos:Pos}{ta tb:WE}(ha:dF X a ta)(hb:dF X b tb):zE X (.Compare a [.Is] [b] pos) (pU (hJ Y4 ta tb)):=yE S8 UI ha hb (mK _)
theorem aIY{a b:Expr}{pos:Pos}{ta tb:WE}(ha:dF X a ta)(hb:dF X b tb):dF X (.Compare a [.Is] [b] pos) (hJ Y4 ta tb):=Y1 S8 UI ha hb (mK _)
noncomputable def aES(t:WT):WT:=λρ Q=>t ρ λb=>Q (!b)
noncomputable def aET(t u:WT):WT:=λρ Q=>t ρ λb=>if b=true then u ρ Q else Q false
noncomputable def aIZ(t u:WT):WT:=λρ Q=>t ρ λb=>if b=true then Q true else u ρ Q
noncomputable def QS(X:Cx)(e:Expr)(t:WT):Prop:=PW X e (liftT X.K t)
theorem aBq{e:Expr}{t t':TT}(h:PW X e t)(f:∀ σ H Q,t' σ H Q->t σ H Q):PW X e t':=λwh pins s σ H Q I q=>h wh pins s σ H Q I (f σ H Q q)
section
variable{a b:Expr}{rest:List Expr}{pos:Pos}{ta tb:WT}
theorem QS.pt{e:Expr}{t:WT}(h:QS X e t):zE X e t:=PW.pt h
theorem aEU(ha:zE X a ta):zE X (.UnaryOp .Not a pos) (aES ta):=T9 (aBL ha) λσ H Q aI0=>by obtain ⟨S,ρ,Q3,fc,sl,ht,k⟩:=aI0; exact ⟨S,ρ,_,fc,sl,ht,λb H1 s1 q1=>k (!b) H1 s1 q1⟩
theorem aI1(ha:zE X a ta):QS X (.BoolOp .And [a] pos) ta:=YE ha
theorem or1(ha:zE X a ta):QS X (.BoolOp .Or [a] pos) ta:=aBJ ha
theorem aEV(ha:zE X a ta)(hb:QS X (.BoolOp .And (b::rest) pos) tb):QS X (.BoolOp .And (a::b::rest) pos) (aET ta tb):=aBq (aBK ha hb) λσ H Q aI2=>by
 obtain ⟨S,ρ,Q3,fc,sl,ht,k⟩:=aI2;refine ⟨S,ρ,_,fc,sl,ht,λc H1 s1 q1=>?_⟩
 cases c with
 | true=>rw [if_pos rfl] at q1 ⊢; exact ⟨S,ρ,Q3,cH fc s1,Sl.fits (.same s1) sl,q1,λb' H2 s2 q2=>k b' H2 (s1.trans s2) q2⟩
 | false=>rw [if_neg Bool.false_ne_true] at q1 ⊢; exact k false H1 s1 q1
theorem aI3(ha:zE X a ta)(hb:QS X (.BoolOp .Or (b::rest) pos) tb):QS X (.BoolOp .Or (a::b::rest) pos) (aIZ ta tb):=aBq (aDb ha hb) λσ H Q aI4=>by
 obtain ⟨S,ρ,Q3,fc,sl,ht,k⟩:=aI4;refine ⟨S,ρ,_,fc,sl,ht,λc H1 s1 q1=>?_⟩
 cases c with
 | false=>rw [if_neg Bool.false_ne_true] at q1 ⊢; exact ⟨S,ρ,Q3,cH fc s1,Sl.fits (.same s1) sl,q1,λb' H2 s2 q2=>k b' H2 (s1.trans s2) q2⟩
 | true=>rw [if_pos rfl] at q1 ⊢; exact k true H1 s1 q1
end
noncomputable def aI5(ta tb:WE):WE:=λρ Q=>ta ρ λx=>match x with
 | .bl true=>tb ρ Q
 | .bl false=>Q (.bl false)
 | _=>False
noncomputable def wOr(ta tb:WE):WE:=λρ Q=>ta ρ λx=>match x with
 | .bl true=>Q (.bl true)
 | .bl false=>tb ρ Q
 | _=>False
noncomputable def aI6(ta:WE):WE:=λρ Q=>ta ρ λx=>match x with
 | .bl b=>Q (.bl (!b))
 | _=>False
noncomputable def wIf(t:WT)(ta tb:WE):WE:=λρ Q=>t ρ λb=>if b=true then ta ρ Q else tb ρ Q
section
variable{a b c:Expr}{rest:List Expr}{pos:Pos}{ta tb:WE}{tc:WT}
theorem aI7{op}(ha:dF X a ta):dF X (.BoolOp op [a] pos) ta:=aBM ha
theorem aI8(ha:dF X a ta)(hb:dF X (.BoolOp .And (b::rest) pos) tb):dF X (.BoolOp .And (a::b::rest) pos) (aI5 ta tb):=imp (aBN ha hb) λσ H Q aI9=>by
 obtain ⟨S,ρ,Q3,fc,sl,ht,k⟩:=aI9;refine ⟨S,ρ,_,fc,sl,ht,λv H1 d s1 d1 q1=>?_⟩
 cases d with
 | bl c =>
  simp only [Dn] at d1;refine ⟨c,d1,?_⟩
  cases c with
  | true=>rw [if_pos rfl]; exact ⟨S,ρ,Q3,cH fc s1,Sl.fits (.same s1) sl,q1,λv' H2 d' s2 d2 q2=>k v' H2 d' (s1.trans s2) d2 q2⟩
  | false=>rw [if_neg Bool.false_ne_true]; exact k _ H1 (.bl false) s1 (by simp only [Dn]) q1
 | _=>exact q1.elim
theorem or3(ha:dF X a ta)(hb:dF X (.BoolOp .Or (b::rest) pos) tb):dF X (.BoolOp .Or (a::b::rest) pos) (wOr ta tb):=imp (aDe ha hb) λσ H Q aIa=>by
 obtain ⟨S,ρ,Q3,fc,sl,ht,k⟩:=aIa;refine ⟨S,ρ,_,fc,sl,ht,λv H1 d s1 d1 q1=>?_⟩
 cases d with
 | bl c =>
  simp only [Dn] at d1;refine ⟨c,d1,?_⟩
  cases c with
  | false=>rw [if_neg Bool.false_ne_true]; exact ⟨S,ρ,Q3,cH fc s1,Sl.fits (.same s1) sl,q1,λv' H2 d' s2 d2 q2=>k v' H2 d' (s1.trans s2) d2 q2⟩
  | true=>rw [if_pos rfl]; exact k _ H1 (.bl true) s1 (by simp only [Dn]) q1
 | _=>exact q1.elim
theorem aIb(ha:dF X a ta):dF X (.UnaryOp .Not a pos) (aI6 ta):=imp (aBO ha) λσ H Q aIc=>by
 obtain ⟨S,ρ,Q3,fc,sl,ht,k⟩:=aIc;refine ⟨S,ρ,_,fc,sl,ht,λv H1 d s1 d1 q1=>?_⟩
 cases d with
 | bl c=>simp only [Dn] at d1; exact ⟨c,d1,k _ H1 (.bl (!c)) s1 (by simp only [Dn]) q1⟩
 | _=>exact q1.elim
theorem if3(hc:zE X c tc)(ha:dF X a ta)(hb:dF X b tb):dF X (.IfExp c a b pos) (wIf tc ta tb):=imp (SS hc ha hb) λσ H Q aIe=>by
 obtain ⟨S,ρ,Q3,fc,sl,ht,k⟩:=aIe;refine ⟨S,ρ,_,fc,sl,ht,λc H1 s1 q1=>?_⟩
 cases c with
 | true=>rw [if_pos rfl] at q1 ⊢; exact ⟨S,ρ,Q3,cH fc s1,Sl.fits (.same s1) sl,q1,λv' H2 d' s2 d2 q2=>k v' H2 d' (s1.trans s2) d2 q2⟩
 | false=>rw [if_neg Bool.false_ne_true] at q1 ⊢; exact ⟨S,ρ,Q3,cH fc s1,Sl.fits (.same s1) sl,q1,λv' H2 d' s2 d2 q2=>k v' H2 d' (s1.trans s2) d2 q2⟩
noncomputable def aIf(ta:WE):WE:=λρ Q=>ta ρ λx=>match x with
 | .int i=>Q (.int (-i))
 | _=>False
theorem aIg(ha:dF X a ta):dF X (.UnaryOp .USub a pos) (aIf ta):=imp (aDo aB3 ha) λσ H Q aIh=>by
 obtain ⟨S,ρ,Q3,fc,sl,ht,k⟩:=aIh;refine ⟨S,ρ,_,fc,sl,ht,λv H1 d s1 d1 q1=>?_⟩
 cases d with
 | int i=>simp only [Dn] at d1; exact ⟨i,d1,k _ H1 (.int (-i)) s1 (by simp only [Dn]) q1⟩
 | _=>exact q1.elim
end
noncomputable def ixF:F2
 | .lst ds,.int i,Q=>(match vC ds i with | some d=>Q d | none=>False)
 | .tup ds,.int i,Q=>(match vC ds i with | some d=>Q d | none=>False)
 | .kZ ns,.int i,Q=>(match vC ns i with | some n=>Q (.int n) | none=>False)
 | _,_,_=>False
theorem aP.at{K:PySem.W.Frag}{S:Addr->Prop}{H:Hp}{ds:List D}{xs:List V}{i:Int}{d:D}(h:aP K S H ds xs)(e:vC ds i=some d):∃ v,vC xs i=some v/\Dn K S H d v:=by
 unfold vC at e ⊢;rw [<- h.len]
 cases q:NT ds.length i with
 | none=>rw [q] at e; cases e
 | some j =>
  rw [q] at e;obtain ⟨v,e1,dn⟩:=h.get (i:=j) (d:=d) e;exact ⟨v,e1,dn⟩
theorem Y5{α β:Type}(f:α->β)(xs:List α)(i:Int):vC (xs.map f) i=(vC xs i).map f:=by
 unfold vC;rw [length_map]
 cases NT xs.length i with
 | none=>rfl
 | some j=>simp
theorem aEW{K:PySem.W.Frag}:O3 K (λx y H Q=>aEA K x y H Q\/aEB K x y H Q) ixF:=by
 intro S H x y dx dy Q3 Q fc hx hy hf k
 cases dx with
 | lst ds =>
  cases dy with
  | int i =>
   simp only [Dn] at hx hy;obtain ⟨a,xs,rfl,ha,sa,da⟩:=hx;have hf:(match vC ds i with | some d=>Q3 d | none=>False):=hf
   cases e:vC ds i with
   | none=>rw [e] at hf; exact hf.elim
   | some d =>
    rw [e] at hf;obtain ⟨v,e1,dv⟩:=da.at e;exact .inl ⟨a,xs,i,v,rfl,hy,eO.of ha,e1,k v H d (Same.refl H) dv hf⟩
  | _=>exact hf.elim
 | tup ds =>
  cases dy with
  | int i =>
   simp only [Dn] at hx hy;obtain ⟨a,xs,rfl,ha,da⟩:=hx;have hf:(match vC ds i with | some d=>Q3 d | none=>False):=hf
   cases e:vC ds i with
   | none=>rw [e] at hf; exact hf.elim
   | some d =>
    rw [e] at hf;obtain ⟨v,e1,dv⟩:=da.at e;exact .inr ⟨a,xs,i,v,rfl,hy,(gR.of ha),e1,k v H d (Same.refl H) dv hf⟩
  | _=>exact hf.elim
 | kZ ns =>
  cases dy with
  | int i =>
   simp only [Dn] at hx hy;obtain ⟨a,rfl,ha⟩:=hx;have hf:(match vC ns i with | some n=>Q3 (.int n) | none=>False):=hf
   cases e:vC ns i with
   | none=>rw [e] at hf; exact hf.elim
   | some n =>
    rw [e] at hf;exact .inl ⟨a,_,i,.int n,rfl,hy,ha.sq,by rw [Y5,e]; rfl,k _ H (.int n) (Same.refl H) (by simp only [Dn]) hf⟩
  | _=>exact hf.elim
 | _=>cases dy<;>exact hf.elim
theorem ix3{a b:Expr}{pos:Pos}{ta tb:WE}(ha:dF X a ta)(hb:dF X b tb)(hs:DD b:=by intro _ _; rfl):dF X (.Subscript a b pos) (hJ ixF ta tb) :=
 imp (aDz (YS.or aBg) ha hb hs) λ_ _ _=>rZ aEW
noncomputable abbrev F1:=List D->(D->Prop)->Prop
noncomputable def UJ(f:F1)(t:WA):WE:=λρ Q=>t ρ λds=>f ds Q
noncomputable def C3(K:PySem.W.Frag)(r:List V->Hp->VK->Prop)(f:F1):Prop:=∀ (S:Addr->Prop) (H:Hp) (xs:List V) (ds:List D) (Q3:D->Prop) (Q:VK),(∀ a,H a=none->S a)->aP K S H ds xs->f ds Q3 ->
 (∀ v H' d,Same H H'->Dn K S H' d v->Q3 d->Q v H')->r xs H Q
noncomputable def C3F(K:PySem.W.Frag)(r:List V->Hp->VK->Prop)(f:F1):Prop:=∀ (S:Addr->Prop) (H:Hp) (xs:List V) (ds:List D) (Q3:D->Prop) (Q:VK),(∀ a,H a=none->S a)->aP K S H ds xs->f ds Q3 ->
 (∀ p ys H' es,H p=none->H' p=some (.lst ys)->Same H H'->aP K (λa=>S a/\a≠p) H' es ys->Q3 (.lst es)->Q (.ref p) H')->r xs H Q
theorem LU{K:PySem.W.Frag}{r:List V->Hp->VK->Prop}{f:F1}{t:WA}{σ:L2.St}{H:Hp}{Q:VK}(h3:C3 K r f)(h:lift K (UJ f t) σ H Q):tCB r (T7 K t) σ H Q:=by obtain ⟨S,ρ,Q3,fc,sl,ht,k⟩:=h;refine ⟨S,ρ,_,fc,sl,ht,λvs H1 ds s1 d1 q1=>?_⟩;exact h3 S H1 vs ds Q3 Q (cH fc s1) d1 q1 λv H' d s' d' q'=>k v H' d (s1.trans s') d' q'
theorem UK{K:PySem.W.Frag}{r:List V->Hp->VK->Prop}{f:F1}{t:WA}{σ:L2.St}{H:Hp}{Q:VK}(h3:C3F K r f)(h:T8 K (UJ f t) σ H Q):tCB r (T7 K t) σ H Q:=by obtain ⟨S,ρ,Q3,fc,sl,ht,k⟩:=h;refine ⟨S,ρ,_,fc,sl,ht,λvs H1 ds s1 d1 q1=>?_⟩;exact h3 S H1 vs ds Q3 Q (cH fc s1) d1 q1 λp ys H' es hp hp' s' d' q'=>k p ys H' es (s1.free hp) hp' (s1.trans s') d' q'
theorem tQ{x:Str}{p pos:Pos}{e:Expr}{es:List Expr}{t:WA}{id:String}{r:List V->Hp->VK->Prop}{f:F1}(hc:fP X (.builtin id) r)(h3:C3 X.K r f)(hv:bootBuiltins x=some (.builtin id))(hg:Gl X x)(hm:X.mg x=none)(ha:BB X (e::es) t)(hn:x ≠ "__name__" := by decide)(hdb:(x == ("__debug__" : Str))=false:=by decide)
  (he:starEach (e::es) X.env=(false,eval e X.env)::starEach es X.env:=by rfl) (hpl:(backTo pos (starEach es X.env)).any (·.1)=false:=by rfl):dF X (.Call (.Name x p) (e::es) [] pos) (UJ f t) :=
 imp (n5 hc hg hm hv ha hn hdb he hpl) λ_ _ _=>LU h3
theorem LV{x:Str}{p pos:Pos}{e:Expr}{es:List Expr}{t:WA}{id:String}{r:List V->Hp->VK->Prop}{f:F1}(hc:fP X (.builtin id) r)(h3:C3F X.K r f)(hv:bootBuiltins x=some (.builtin id))(hg:Gl X x)(hm:X.mg x=none)(ha:BB X (e::es) t)(hn:x ≠ "__name__" := by decide)(hdb:(x == ("__debug__" : Str))=false:=by decide)
  (he:starEach (e::es) X.env=(false,eval e X.env)::starEach es X.env:=by rfl) (hpl:(backTo pos (starEach es X.env)).any (·.1)=false:=by rfl):IT X (.Call (.Name x p) (e::es) [] pos) (UJ f t) :=
 imp (n5 hc hg hm hv ha hn hdb he hpl) λ_ _ _=>UK h3
theorem Y6{x:Str}{p pos:Pos}{e:Expr}{es:List Expr}{t:WA}{T:String}{r:List V->Hp->VK->Prop}{f:F1}(hc:fP X (.type T) r)(h3:C3 X.K r f)(hv:bootBuiltins x=some (.type T))(hg:Gl X x)(hm:X.mg x=none)(ha:BB X (e::es) t)(hn:x ≠ "__name__" := by decide)(hdb:(x == ("__debug__" : Str))=false:=by decide)
  (he:starEach (e::es) X.env=(false,eval e X.env)::starEach es X.env:=by rfl) (hpl:(backTo pos (starEach es X.env)).any (·.1)=false:=by rfl):dF X (.Call (.Name x p) (e::es) [] pos) (UJ f t) :=
 imp (tN hc hg hm hv ha hn hdb he hpl) λ_ _ _=>LU h3
noncomputable def DN:F1
 | [.lst ds],Q=>Q (.int ds.length)
 | [.tup ds],Q=>Q (.int ds.length)
 | [.kZ ns],Q=>Q (.int ns.length)
 | _,_=>False
theorem aBr{K:PySem.W.Frag}:C3 K (λxs H Q=>∃ p ys,xs=[.ref p]/\(eO K H p ys\/gR K H p ys)/\Q (.int ys.length) H) DN:=by
 intro S H xs ds Q3 Q fc hd hf k
 match ds,hf with
 | [.lst es],hf =>
  obtain ⟨v,r,rfl,h1,h2⟩:=hd.bV;simp only [aP] at h2;subst h2;simp only [Dn] at h1;obtain ⟨a,ys,rfl,ha,sa,da⟩:=h1;exact ⟨a,ys,rfl,.inl (eO.of ha),k _ H _ (Same.refl H) (by simp only [Dn]; rw [da.len]) hf⟩
 | [.tup es],hf =>
  obtain ⟨v,r,rfl,h1,h2⟩:=hd.bV;simp only [aP] at h2;subst h2;simp only [Dn] at h1;obtain ⟨a,ys,rfl,ha,da⟩:=h1;exact ⟨a,ys,rfl,.inr (gR.of ha),k _ H _ (Same.refl H) (by simp only [Dn]; rw [da.len]) hf⟩
 | [.kZ ns],hf =>
  obtain ⟨v,r,rfl,h1,h2⟩:=hd.bV;simp only [aP] at h2;subst h2;simp only [Dn] at h1;obtain ⟨a,rfl,ha⟩:=h1;exact ⟨a,_,rfl,.inl ha.sq,k _ H _ (Same.refl H) (by simp only [Dn]; rw [length_map]) hf⟩
theorem aIj{p pos:Pos}{e:Expr}{t:WA}(hm:X.mg "len" = none)(ha:BB X [e] t)(hg:Gl X "len" := by rfl)
  (he:starEach [e] X.env=(false,eval e X.env)::starEach [] X.env:=by rfl):dF X (.Call (.Name "len" p) [e] [] pos) (UJ DN t):=tQ DH aBr PySem.boot_len hg hm ha (by decide) (by decide) he (by rfl)
noncomputable def IX:F1
 | [.lst ds],Q=>Q (.tup ds)
 | [.tup ds],Q=>Q (.tup ds)
 | _,_=>False
theorem UL{K:PySem.W.Frag}:C3 K (λxs H Q=>∃ p ys,xs=[.ref p]/\((eO K H p ys /\ ∀ l,H l=none->Q (.ref l) (upd H l (.tup ys)))\/(gR K H p ys/\Q (.ref p) H))) IX:=by
 intro S H xs ds Q3 Q fc hd hf k
 match ds,hf with
 | [.lst es],hf =>
  obtain ⟨v,r,rfl,h1,h2⟩:=hd.bV;simp only [aP] at h2;subst h2;simp only [Dn] at h1;obtain ⟨a,ys,rfl,ha,sa,da⟩:=h1;refine ⟨a,ys,rfl,.inl ⟨eO.of ha,λl hl=>k _ _ _ (aR hl) ?_ hf⟩⟩;simp only [Dn];exact ⟨l,ys,rfl,aV,aP.fits (.same (aR hl)) _ _ da⟩
 | [.tup es],hf =>
  obtain ⟨v,r,rfl,h1,h2⟩:=hd.bV;simp only [aP] at h2;subst h2;have h1':=h1;simp only [Dn] at h1;obtain ⟨a,ys,rfl,ha,da⟩:=h1;exact ⟨a,ys,rfl,.inr ⟨(gR.of ha),k _ H _ (Same.refl H) h1' hf⟩⟩
theorem aBs{p pos:Pos}{e:Expr}{t:WA}(hm:X.mg "tuple" = none)(hv:bootBuiltins "tuple" = some (.type "tuple"))(ha:BB X [e] t)(hg:Gl X "tuple" := by rfl)
  (he:starEach [e] X.env=(false,eval e X.env)::starEach [] X.env:=by rfl):dF X (.Call (.Name "tuple" p) [e] [] pos) (UJ IX t):=Y6 zR UL hv hg hm ha (by decide) (by decide) he (by rfl)
noncomputable abbrev Spec:=List D->(D->Prop)->Prop
noncomputable def sp3(K:PySem.W.Frag)(R:Spec):Sp:=λvs H Q _=>∃ (S:Addr->Prop) (ds:List D) (Q3:D->Prop),(∀ a,H a=none->S a)/\aP K S H ds vs/\R ds Q3 /\ ∀ v H' d,Same H H'->Dn K S H' d v->Q3 d->Q v H'
theorem aEX{k:Nat}{f:Addr}{fd:FuncData}{ps:List Str}{R:Spec}{x:Str}{p pos:Pos}{e:Expr}{es:List Expr}{t:WA}(F:aQ X.prog X.w X.K X.mg X.base dE k f fd ps (sp3 X.K R))(hr:kB k X.A)(hm:X.mg x=some (.ref f))(hk:PySem.W.keepIn X.K (.ref f)=true)(hb:Binds X.K fd ps [])
  (ha:BB X (e::es) t) (hg:Gl X x:=by rfl) (hdb:(x == ("__debug__" : Str))=false:=by decide) (he:starEach (e::es) X.env=(false,eval e X.env)::starEach es X.env:=by rfl) (hpl:(backTo pos (starEach es X.env)).any (·.1)=false:=by rfl) :
  dF X (.Call (.Name x p) (e::es) [] pos) (UJ R t):=imp (C9 F hr hg hm hk hb .nil TV ha hdb he hpl) λσ H Q aIk=>by
 obtain ⟨S,ρ,Q3,fc,sl,ht,k⟩:=aIk;refine ⟨S,ρ,_,fc,sl,ht,λvs H1 ds s1 d1 q1=>?_⟩;show sp3 X.K R (vs++[]) H1 Q E0;rw [append_nil];exact ⟨S,ds,Q3,cH fc s1,d1,q1,λv H' d s' d' q'=>k v H' d (s1.trans s') d' q'⟩
end
structure DE where
 nx:aS->Prop
 rt:D->Prop
 bk:aS->Prop:=λ_=>False
 ct:aS->Prop:=λ_=>False
 ex:Str->Prop:=λ_=>False
noncomputable abbrev WS:=DE->aS->Prop
structure aBt (X:Cx) (pins:List (Addr×Obj)) (H:Hp) (s:Shared) (e:Addr) (cls a0:Value) (P:List Addr):Prop where
 mem:e∈P
 free:∀ q∈P,H q=none
 new:∀ q∈P,X.s₀.heap.get? q=none
 fld:∀ q∈P,∃ o vs,s.heap.get? q=some o/\o.data=.fields vs
 pin:∀ q∈P,∀ p∈X.pn++pins,p.1≠q
 tr:(∃ oe vs,s.heap.get? e=some oe/\oe.cls=cls/\oe.data=.fields vs/\vs[1]? = some .none/\vs[0]? = some a0) \/
  (∃ oe vs T oT ts,s.heap.get? e=some oe/\(oe.cls=cls/\vs[0]? = some a0)/\oe.data=.fields vs/\vs[1]? = some (.ref T)/\T∈P/\T≠e/\s.heap.get? T=some oT/\oT.data=.fields ts/\ts[3]? = some .none)
noncomputable def XC(X:Cx)(c:Str)(H:Hp):Prop:=∃ C:Addr,X.mg c=some (.ref C) /\ ∀ (pins:List (Addr×Obj)) (σ:L2.St) (s:Shared) (e:Addr) (a0:Value) (P:List Addr),Inv X pins σ H s->aBt X pins H s e (.ref C) a0 P->X.xe (.ref e) s
structure aBu (K:PySem.W.Frag) (xc:Str->Hp->Prop) (n:Nat) (H₀:Hp) (S:Addr->Prop) (G:List (D×V)) (E:DE) (B:Ends):Prop where
 nx:∀ w σ H ρ,σ.length=n->ST K H₀ S w σ H ρ G->E.nx ρ->B.nx σ H
 rt:∀ v H d,Same H₀ H->Dn K S H d v->E.rt d->B.rt v H
 bk:∀ w σ H ρ,σ.length=n->ST K H₀ S w σ H ρ G->E.bk ρ->B.bk σ H
 ct:∀ w σ H ρ,σ.length=n->ST K H₀ S w σ H ρ G->E.ct ρ->B.ct σ H
 ex:∀ c H,Same H₀ H->E.ex c->xc c H
noncomputable def BE(K:PySem.W.Frag)(xc:Str->Hp->Prop)(n:Nat)(t:WS):TS:=λB σ H=>∃ (H₀:Hp) (S:Addr->Prop) (w:Nat->Addr) (ρ:aS) (G:List (D×V)) (E:DE),σ.length=n/\ST K H₀ S w σ H ρ G/\t E ρ/\aBu K xc n H₀ S G E B
noncomputable def DO(X:Cx)(st:Stmt)(t:WS):Prop:=PS X st (BE X.K (XC X) X.N.length t)
noncomputable def vE(X:Cx)(st:List Stmt)(t:WS):Prop:=A2 X st (BE X.K (XC X) X.N.length t)
section
variable{X:Cx}
theorem lI{e:Stmt}{t t':TS}(h:PS X e t)(f:∀ B σ H,t' B σ H->t B σ H):PS X e t':=λpins s σ H B I q=>h pins s σ H B I (f B σ H q)
theorem FQ{e:List Stmt}{t t':TS}(h:A2 X e t)(f:∀ B σ H,t' B σ H->t B σ H):A2 X e t':=λpins s σ H B I q=>h pins s σ H B I (f B σ H q)
noncomputable def aEY:WS:=λE ρ=>E.nx ρ
noncomputable def aBv(t u:WS):WS:=λE ρ=>t { E with nx:=u E } ρ
theorem aIl:vE X [] aEY:=FQ YF λB σ H aIm=>by obtain ⟨H₀,S,w,ρ,G,E,hl,st,ht,ok⟩:=aIm; exact ok.nx w σ H ρ hl st ht
theorem aIn{st:Stmt}{rest:List Stmt}{t u:WS}(h1:DO X st t)(h2:vE X rest u):vE X (st::rest) (aBv t u):=FQ (x6 h1 h2) λB σ H aIo=>by obtain ⟨H₀,S,w,ρ,G,E,hl,sT,ht,ok⟩:=aIo;exact ⟨H₀,S,w,ρ,G,{ E with nx:=u E },hl,sT,ht,⟨λw' σ' H' ρ' hl' st' q=>⟨H₀,S,w',ρ',G,E,hl',st',q,ok⟩,ok.rt,ok.bk,ok.ct,ok.ex⟩⟩
theorem aEZ{st:Stmt}{t:WS}(h1:DO X st t):vE X [st] t:=FQ (LF h1) λ_ _ _ h=>h
noncomputable def aIp(t:WE):WS:=λE ρ=>t (bU ρ) E.rt
theorem aIq{e:Expr}{t:WE}{pos:Pos}(h:dF X e t):DO X (.Return (some e) pos) (aIp t):=lI (SW h) λB σ H aIr=>by obtain ⟨H₀,S,w,ρ,G,E,hl,st,ht,ok⟩:=aIr;exact ⟨S,bU ρ,E.rt,st.QQ,st.all,ht,λv H' d s' d' q'=>ok.rt v H' d (st.sm.trans s') d' q'⟩
noncomputable def aIs(c:WT)(t u:WS):WS:=λE ρ=>c (bU ρ) λb=>if b=true then t E ρ else u E ρ
theorem aIt{c:Expr}{a b:List Stmt}{pos:Pos}{tc:WT}{t u:WS}(hc:zE X c tc)(ha:vE X a t)(hb:vE X b u):DO X (.If c a b pos) (aIs tc t u):=lI (aDi hc ha hb) λB σ H aIu=>by
 obtain ⟨H₀,S,w,ρ,G,E,hl,st,ht,ok⟩:=aIu;refine ⟨S,bU ρ,_,st.QQ,st.all,ht,λd H1 s1 q1=>?_⟩
 cases d with
 | true=>rw [if_pos rfl] at q1 ⊢; exact ⟨H₀,S,w,ρ,G,E,hl,st.same s1,q1,ok⟩
 | false=>rw [if_neg Bool.false_ne_true] at q1 ⊢; exact ⟨H₀,S,w,ρ,G,E,hl,st.same s1,q1,ok⟩
noncomputable def aBw(i:Nat)(t:WE):WS:=λE ρ=>t (kC ρ) λd=>E.nx (ρ.set i (.ro d))
noncomputable def aIv(i:Nat)(t:WE):WS:=λE ρ=>t (kC ρ) λd=>E.nx (ρ.set i (.ow d))
section
variable{i:Nat}{x:Str}{e:Expr}{t:WE}{pos pos':Pos}
theorem jV{N:List Str}{i:Nat}{x:Str}(h:N[i]? = some x):i<N.length:=(List.getElem?_eq_some_iff.mp h).1
theorem aIw(hN:X.N.Nodup)(he:dF X e t)(hi:X.N[i]? = some x:=by rfl)(hx:Loc X.env.scope x:=by first | exact .inl rfl | exact .inr rfl)(hs:swapsWith e (some (.Name x pos')) pos.line X.env=pure false:=by rfl)(hf:X.fn x=true\/X.env.scope.names.lookup x=some .local:=by first | exact .inl rfl | exact .inr rfl) :
  DO X (.Assign [.Name x pos'] e pos) (aBw i t):=lI (qI hN hi hx he hs hf) λB σ H aIx=>by
 obtain ⟨H₀,S,w,ρ,G,E,hl,st,ht,ok⟩:=aIx;exact ⟨_,kC ρ,_,st.QR,st.rd,ht,λv H' d s' d' q'=>ok.nx w _ H' _ (by rw [length_set]; exact hl) ((st.same s').mN (by rw [hl]; exact jV hi) d') q'⟩
theorem aIy(hN:X.N.Nodup)(he:IT X e t)(hi:X.N[i]? = some x:=by rfl)(hx:Loc X.env.scope x:=by first | exact .inl rfl | exact .inr rfl)(hs:swapsWith e (some (.Name x pos')) pos.line X.env=pure false:=by rfl)(hf:X.fn x=true\/X.env.scope.names.lookup x=some .local:=by first | exact .inl rfl | exact .inr rfl) :
  DO X (.Assign [.Name x pos'] e pos) (aIv i t):=lI (qI hN hi hx he hs hf) λB σ H aIz=>by
 obtain ⟨H₀,S,w,ρ,G,E,hl,st,ht,ok⟩:=aIz;exact ⟨_,kC ρ,_,st.QR,st.rd,ht,λp xs H' ds hp hp' s' d' q'=>ok.nx _ _ H' _ (by rw [length_set]; exact hl) (st.IS (d:=.lst ds) (by rw [hl]; exact jV hi) s' hp ⟨xs,hp',d'⟩) q'⟩
end
noncomputable def n9(N:List Str)(ds:List D):aS:=ds.map Sv.ro++List.replicate (N.length - ds.length) Sv.no
theorem UM{K:PySem.W.Frag}{H:Hp}{S:Addr->Prop}{N:List Str}{ds:List D}{vs:List V}(fc:∀ a,H a=none->S a)(h:aP K S H ds vs):ST K H S (λ_=>0) (L2.start N vs) H (n9 N ds) []:=by
 have no:∀ (i:Nat) (d:D),(n9 N ds)[i]?≠some (Sv.ow d):=λi d e=>by
  unfold n9 at e;by_cases hi:i<ds.length
  .rw [getElem?_append_left (by simpa using hi),getElem?_map] at e
   cases q:ds[i]? with
   | none=>rw [q] at e; cases e
   | some a=>rw [q] at e; cases e
  .rw [getElem?_append_right (by simpa using hi),getElem?_replicate] at e;split at e<;>cases e
 have so:∀ a,S a->SO S (λ_=>0) (n9 N ds) a:=λa s=>⟨s,λi d e=>absurd e (no i d)⟩;refine ⟨fc,Same.refl H,λi d e=>absurd e (no i d),λi j d e h1=>absurd h1 (no i d),λi d e=>?_,λg hg=>nomatch hg⟩;unfold n9 at e;by_cases hi:i<ds.length
 .rw [getElem?_append_left (by simpa using hi),getElem?_map] at e
  cases q:ds[i]? with
  | none=>rw [q] at e; cases e
  | some a =>
   rw [q] at e;cases e;obtain ⟨v,e1,dv⟩:=h.get q;refine ⟨v,?_,Dn.fits (.mono so) _ _ dv⟩;unfold L2.start;have hv:i<vs.length:=(List.getElem?_eq_some_iff.mp e1).1;rw [getElem?_append_left (by simpa using hv),getElem?_map,e1];rfl
 .rw [getElem?_append_right (by simpa using hi),getElem?_replicate] at e;split at e<;>cases e
theorem aJA{P:Program}{w:World}{K:PySem.W.Frag}{mg:Str->Option Value}{base:Heap}{x qual:Str}{st:Stmt}{f:Addr}{fd:FuncData}{N ps:List Str}{k:Nat}{R:Spec}(F:m9 K x qual st f fd)(S:bD N ps (aH st))(len:∀ ds Q,R ds Q->ds.length=ps.length)
  (hbody:∀ (cdv:Value) (A:Around) (outer:List Env) (s:Shared) (H:Hp) (E:XK),kB k (A.deeper (envOfC qual (aH st) s.heap.objs.size f cdv)) ->
   ∃ t:WS,vE (DA dE P w K mg base N qual (aH st) f cdv A outer s H E).nox (aX st) t /\ ∀ ds Q,R ds Q->t { nx:=λ_=>Q .non,rt:=Q } (n9 N ds)):aQ P w K mg base dE (k+1) f fd ps (sp3 K R):=by
 refine F.ok S (λvs H Q E h=>?_) λcdv A outer s H vs Q E hr h=>?_
 .obtain ⟨S',ds,Q3,fc,dn,r,_⟩:=h;rw [<- dn.len];exact len ds Q3 r
 .obtain ⟨t,ht,hq⟩:=hbody cdv A outer s H E hr;obtain ⟨S',ds,Q3,fc,dn,r,kk⟩:=h;refine ⟨_,ht,H,S',λ_=>0,n9 N ds,[],{ nx:=λ_=>Q3 .non,rt:=Q3 },?_,UM fc dn,hq ds Q3 r,⟨λw' σ' H' ρ' _ st' q=>?_,λv H' d s' d' q=>kk v H' d s' d' q,λ_ _ _ _ _ _ q=>q,λ_ _ _ _ _ _ q=>q,λ_ _ _ q=>q.elim⟩⟩
  .have hl:=len ds Q3 r;have hl2:=dn.len;have hp:ps.length<=N.length:=by have:=congrArg List.length S.pre; rw [length_take] at this; omega
   unfold L2.start;show _=N.length;rw [List.length_append,length_map,length_replicate];omega
  .exact kk .non H' .non st'.sm (by simp only [Dn]) q
end
noncomputable abbrev WX:=aS->(aS->D->Prop)->Prop
noncomputable def LW(K:PySem.W.Frag)(n:Nat)(t:WX):TE:=λσ H Q=>∃ (H₀:Hp) (S:Addr->Prop) (w:Nat->Addr) (ρ:aS) (G:List (D×V)) (Q3:aS->D->Prop),σ.length=n/\ST K H₀ S w σ H ρ G/\t ρ Q3 /\
 ∀ w' v H' ρ' d,ST K H₀ S w' σ H' ρ' G->Dn K (SO S w' ρ') H' d v->Q3 ρ' d->Q v H'
noncomputable def FR(X:Cx)(e:Expr)(t:WX):Prop:=PE X e (LW X.K X.N.length t)
noncomputable def aE0(t:WE):WX:=λρ Q=>t (bU ρ) λd=>d.AB=true/\Q ρ d
noncomputable def aBx(t:WE):WX:=λρ Q=>t (kC ρ) λd=>Q ρ d
section
variable{X:Cx}
theorem px3{e:Expr}{t:WE}(h:dF X e t):FR X e (aE0 t):=imp h λσ H Q aJB=>by obtain ⟨H₀,S,w,ρ,G,Q3,hl,st,ht,k⟩:=aJB;exact ⟨S,bU ρ,_,st.QQ,st.all,ht,λv H' d s' d' q'=>k w v H' ρ d (st.same s') (Dn.AB q'.1 d') q'.2⟩
theorem aJC{e:Expr}{t:WE}(h:dF X e t):FR X e (aBx t):=imp h λσ H Q aJD=>by obtain ⟨H₀,S,w,ρ,G,Q3,hl,st,ht,k⟩:=aJD;exact ⟨_,kC ρ,_,st.QR,st.rd,ht,λv H' d s' d' q'=>k w v H' ρ d (st.same s') d' q'⟩
noncomputable def aE1(i:Nat)(t:WX):WS:=λE ρ=>t ρ λρ' d=>E.nx (ρ'.set i (.ro d))
theorem aE2{i:Nat}{x:Str}{e:Expr}{t:WX}{pos pos':Pos}(hN:X.N.Nodup)(he:FR X e t)(hi:X.N[i]? = some x:=by rfl)(hx:Loc X.env.scope x:=by first | exact .inl rfl | exact .inr rfl)(hs:swapsWith e (some (.Name x pos')) pos.line X.env=pure false:=by rfl)(hf:X.fn x=true\/X.env.scope.names.lookup x=some .local:=by first | exact .inl rfl | exact .inr rfl) :
  DO X (.Assign [.Name x pos'] e pos) (aE1 i t):=lI (qI hN hi hx he hs hf) λB σ H aJE=>by
 obtain ⟨H₀,S,w,ρ,G,E,hl,st,ht,ok⟩:=aJE;exact ⟨H₀,S,w,ρ,G,_,hl,st,ht,λw' v H' ρ' d st' d' q'=>ok.nx w' _ H' _ (by rw [length_set]; exact hl) (st'.mN (by rw [hl]; exact jV hi) d') q'⟩
noncomputable def aE3(t:WX):WS:=λE ρ=>t ρ λρ' _=>E.nx ρ'
theorem aE4{e:Expr}{t:WX}{pos:Pos}(he:FR X e t)(hs:swapsWith e none pos.line X.env=pure false:=by rfl):DO X (.Expr e pos) (aE3 t):=lI (LG he hs) λB σ H aJF=>by obtain ⟨H₀,S,w,ρ,G,E,hl,st,ht,ok⟩:=aJF;exact ⟨H₀,S,w,ρ,G,_,hl,st,ht,λw' v H' ρ' d st' d' q'=>ok.nx w' _ H' _ hl st' q'⟩
noncomputable def wM1(i:Nat)(f:List D->D->(List D->D->Prop)->Prop)(t:WX):WX:=λρ Q=>(match ρ[i]? with | some (.ow (.lst _))=>True | _=>False)/\t ρ λρ' d=>match ρ'[i]? with
 | some (.ow (.lst ds))=>f ds d λds' r=>Q (ρ'.set i (.ow (.lst ds'))) r
 | _=>False
noncomputable def M3(K:PySem.W.Frag)(r:V->List V->Hp->VK->Prop)(f:List D->D->(List D->D->Prop)->Prop):Prop:=∀ (S:Addr->Prop) (H:Hp) (p:Addr) (xs:List V) (ds:List D) (y:V) (d:D) (Q3:List D->D->Prop) (Q:VK),
 H p=some (.lst xs)->aP K S H ds xs->Dn K S H d y->f ds d Q3->(∀ ys ds' v d',aP K S H ds' ys->Dn K S H d' v->Q3 ds' d'->Q v (upd H p (.lst ys)))->r (.ref p) [y] H Q
theorem Y7{K:PySem.W.Frag}{n i:Nat}{r:V->List V->Hp->VK->Prop}{f:List D->D->(List D->D->Prop)->Prop}{t:WX}{σ:L2.St}{H:Hp}{Q:VK}(h3:M3 K r f)(h:LW K n (wM1 i f t) σ H Q) :
  tBM K "list" r (SR i) (LK (LW K n t) aB7) σ H Q:=by
 obtain ⟨H₀,S,w,ρ,G,Q3,hl,st,⟨h0,ht⟩,k⟩:=h;split at h0
 .rename_i ds e;obtain ⟨a,b,c⟩:=st.own i _ e;obtain ⟨xs,hp,dn⟩:=c;refine ⟨_,a,.inl ⟨rfl,xs,eO.of hp⟩,H₀,S,w,ρ,G,_,hl,st,ht,λw' v H' ρ' d st' d' q'=>?_⟩;split at q'
  .rename_i ds' e';obtain ⟨a',b',c'⟩:=st'.own i _ e';obtain ⟨xs',hp',dn'⟩:=c';have ew:w i=w' i:=by have z:=a.symm.trans a';have z1:=Option.some.inj (Option.some.inj z);injection z1
   rw [ew];refine h3 _ H' (w' i) xs' ds' v d _ Q hp' dn' d' q' λys ds2 v2 d2 LX dv2 q2=>?_;have nS:¬ SO S w' ρ' (w' i):=λ⟨_,z⟩=>z i _ e' rfl;have F:Fits K (SO S w' ρ') (SO S w' ρ') H' (upd H' (w' i) (.lst ys)):=.upd (.inl ⟨_,hp'⟩) nS;have so:∀ a,SO S w' ρ' a->SO S w' (ρ'.set i (.ow (.lst ds2))) a:=SO.mono λj f hf=>by
    rcases get_set hf with ⟨hj,_,_⟩ | ⟨_,z⟩
    .subst hj; exact ⟨_,e'⟩
    .exact ⟨_,z⟩
   exact k w' v2 _ _ d2 (st'.write (d':=.lst ds2) e' ⟨ys,aV,aP.fits F _ _ LX⟩) (Dn.fits (F.trans (.mono so)) _ _ dv2) q2
  .exact q'.elim
 .exact h0.elim
theorem m1{i:Nat}{x:Str}{id:String}{name:Str}{e:Expr}{p apos cpos:Pos}{r:V->List V->Hp->VK->Prop}{f:List D->D->(List D->D->Prop)->Prop}{t:WX}(slot:Slot "list" name id)(hty:typeOf (.builtin id)=pure (.type "method_descriptor"))(hm:MtR X id r)(h3:M3 X.K r f)(he:FR X e t)
  (hN:X.N[i]? = some x:=by rfl) (hv:AZ X.env.scope x:=by first | exact Or.inl rfl | exact Or.inr (Or.inl rfl) | exact Or.inr (Or.inr rfl)) (hd:(x == ("__debug__" : Str))=false:=by decide) (hcd:(x == ("__classdict__" : Str))=false:=by decide)
  (hbase:attributeBase (.Name x p) name X.env (eval (.Name x p) X.env)=eval (.Name x p) X.env:=by rfl)
  (hfew:((backTo cpos (starEach [e] X.env)).all (λx=>!x.1)&&(backToKw cpos (keywordEach [] X.env)).all (λx=>x.1.isSome)
   && decide ([e].length+([]:List Keyword).length+(if ([]:List Keyword).isEmpty then 0 else 1)<30))=true:=by rfl)
  (hline:(apos.endLine == cpos.line)=true:=by rfl) (hs:starEach [e] X.env=(false,eval e X.env)::starEach [] X.env:=by rfl) :
  FR X (.Call (.Attribute (.Name x p) name apos) [e] [] cpos) (wM1 i f t) :=
 imp (aAT PySem.F.plainAttrs_list slot hty hm (nZ hN hv hd hcd) (iE he qJ hs) hbase hfew hline hs (by rfl)) λ_ _ _ h=>Y7 h3 h
noncomputable def aBy:List D->D->(List D->D->Prop)->Prop:=λds d Q=>ds.length<sizeLine/\Q (ds++[d]) .non
theorem aBz{K:PySem.W.Frag}:M3 K LP aBy:=by intro S H p xs ds y d Q3 Q hp dn dy hf k;exact ⟨p,xs,y,rfl,rfl,hp,by rw [<- dn.len]; exact hf.1,k _ _ _ _ (dn.append (aP.one dy)) (by simp only [Dn]) hf.2⟩
noncomputable def aCA:List D->D->(List D->D->Prop)->Prop
 | ds,.int k,Q=>(-(2 ^ 63)<=k/\k<2 ^ 63)/\(match NT ds.length k with | some j=>(match ds[j]? with | some d=>Q (ds.eraseIdx j) d | none=>False) | none=>False)
 | _,_,_=>False
theorem aCB{K:PySem.W.Frag}:M3 K TL aCA:=by
 intro S H p xs ds y d Q3 Q hp dn dy hf k
 cases d with
 | int i =>
  simp only [Dn] at dy;subst dy;obtain ⟨⟨h1,h2⟩,hf⟩:=hf;split at hf
  .rename_i j ej;split at hf
   .rename_i dd ed;obtain ⟨v,ev,dv⟩:=dn.get ed;obtain ⟨g1,_⟩:=DC ej;exact ⟨p,xs,i,j,v,rfl,rfl,hp,h1,h2,by rw [<- dn.len]; exact g1,ev,k _ _ _ _ (dn.erase j) dv hf⟩
   .exact hf.elim
  .exact hf.elim
 | _=>exact hf.elim
section
variable{i:Nat}{x:Str}{e:Expr}{p apos cpos:Pos}{t:WX}
theorem aJG(he:FR X e t)(hN:X.N[i]? = some x:=by rfl)(hv:AZ X.env.scope x:=by first | exact Or.inl rfl | exact Or.inr (Or.inl rfl) | exact Or.inr (Or.inr rfl))(hd:(x == ("__debug__" : Str))=false:=by decide)(hcd:(x == ("__classdict__" : Str))=false:=by decide)
  (hbase:attributeBase (.Name x p) "append" X.env (eval (.Name x p) X.env)=eval (.Name x p) X.env:=by rfl)
  (hfew:((backTo cpos (starEach [e] X.env)).all (λx=>!x.1)&&(backToKw cpos (keywordEach [] X.env)).all (λx=>x.1.isSome)
   && decide ([e].length+([]:List Keyword).length+(if ([]:List Keyword).isEmpty then 0 else 1)<30))=true:=by rfl)
  (hline:(apos.endLine == cpos.line)=true:=by rfl) (hs:starEach [e] X.env=(false,eval e X.env)::starEach [] X.env:=by rfl) :
  FR X (.Call (.Attribute (.Name x p) "append" apos) [e] [] cpos) (wM1 i aBy t):=m1 PySem.F.slot_list_append PySem.F.type_list_append A8 aBz he hN hv hd hcd hbase hfew hline hs
theorem aJH(he:FR X e t)(hN:X.N[i]? = some x:=by rfl)(hv:AZ X.env.scope x:=by first | exact Or.inl rfl | exact Or.inr (Or.inl rfl) | exact Or.inr (Or.inr rfl))(hd:(x == ("__debug__" : Str))=false:=by decide)(hcd:(x == ("__classdict__" : Str))=false:=by decide)
  (hbase:attributeBase (.Name x p) "pop" X.env (eval (.Name x p) X.env)=eval (.Name x p) X.env:=by rfl)
  (hfew:((backTo cpos (starEach [e] X.env)).all (λx=>!x.1)&&(backToKw cpos (keywordEach [] X.env)).all (λx=>x.1.isSome)
   && decide ([e].length+([]:List Keyword).length+(if ([]:List Keyword).isEmpty then 0 else 1)<30))=true:=by rfl)
  (hline:(apos.endLine == cpos.line)=true:=by rfl) (hs:starEach [e] X.env=(false,eval e X.env)::starEach [] X.env:=by rfl) :
  FR X (.Call (.Attribute (.Name x p) "pop" apos) [e] [] cpos) (wM1 i aCA t):=m1 PySem.F.slot_list_pop PySem.F.type_list_pop TN aCB he hN hv hd hcd hbase hfew hline hs
end
noncomputable def aCC(ρ:aS)(i:Nat):Prop:=match ρ[i]? with
 | some (.ow (.lst _))=>True
 | _=>False
noncomputable def aJI(i:Nat)(t:WX)(tk:WE):WS:=λE ρ=>t ρ λρ' d=>aCC ρ' i/\tk (bU ρ') λk=>match ρ'[i]?,k with
 | some (.ow (.lst ds)),.int k=>(match NT ds.length k with | some j=>E.nx (ρ'.set i (.ow (.lst (ds.set j d)))) | none=>False)
 | _,_=>False
theorem put3{i:Nat}{x:Str}{e k:Expr}{t:WX}{tk:WE}{pos pos' p:Pos}(he:FR X e t)(hk:dF X k tk)
  (hN:X.N[i]? = some x:=by rfl) (hv:AZ X.env.scope x:=by first | exact Or.inl rfl | exact Or.inr (Or.inl rfl) | exact Or.inr (Or.inr rfl)) (hd:(x == ("__debug__" : Str))=false:=by decide) (hcd:(x == ("__classdict__" : Str))=false:=by decide)
  (ha:∀ v,assign (.Subscript (.Name x p) k pos') X.env v=(do
   let ov <- holding [v] (eval (.Name x p) X.env)
   let iv <- holding [v,ov] (eval k X.env)
   standAt pos'
   holding [v,ov,iv] (setItem ov iv v)
   release [v,ov,iv] []):=by intro _; rfl)
  (hs:swapsWithSole [.Subscript (.Name x p) k pos'] e pos.line X.env=pure false:=by rfl) (hw:swappedStores [.Subscript (.Name x p) k pos'] e X.env=pure none:=by rfl)
  (h1:(assignEach [.Subscript (.Name x p) k pos'] X.env).map (·.2)=[assign (.Subscript (.Name x p) k pos') X.env]:=by rfl) :
  DO X (.Assign [.Subscript (.Name x p) k pos'] e pos) (aJI i t tk):=lI (aBU he (aBS (nZ hN hv hd hcd) hk set_list ha) hs hw h1) λB σ H aJJ=>by
 obtain ⟨H₀,S,w,ρ,G,E,hl,st,ht,ok⟩:=aJJ;refine ⟨H₀,S,w,ρ,G,_,hl,st,ht,λw' v H' ρ' d st' d' q'=>?_⟩;obtain ⟨q0,q'⟩:=q';unfold aCC at q0;split at q0
 .rename_i ds0 e0;obtain ⟨a0,_,_⟩:=st'.own i _ e0;refine ⟨_,a0,S,bU ρ',_,st'.QQ,st'.all,q',λkv H2 dk s2 dk2 q2=>?_⟩;split at q2
  .rename_i ds k' e1;simp only [Dn] at dk2;split at q2
   .rename_i j ej;have st2:=st'.same s2;obtain ⟨a,b,c⟩:=st2.own i _ e1;obtain ⟨xs,hp,dn⟩:=c;have nS:¬ SO S w' ρ' (w' i):=λ⟨_,z⟩=>z i _ e1 rfl;have F:Fits X.K (SO S w' ρ') (SO S w' ρ') H2 (upd H2 (w' i) (.lst (xs.set j v))):=.upd (.inl ⟨_,hp⟩) nS;exact ⟨w' i,xs,k',j,rfl,dk2,hp,by rw [<- dn.len]; exact ej,ok.nx w' σ _ _ hl (st2.write (d':=.lst (ds.set j d)) e1 ⟨_,aV,aP.fits F _ _ (dn.set j (Dn.fits (.same s2) _ _ d'))⟩) q2⟩
   .exact q2.elim
  .exact q2.elim
 .exact q0.elim
end
structure Wlk (K:PySem.W.Frag) (J:It) (ds:List D) (G:List (D×V)):Prop where
 go:∀ (S:Addr->Prop) (H:Hp),(∀ a,H a=none->S a)->(∀ g∈G,Dn K S H g.1 g.2) -> ∀ (i:Nat) (d:D),ds[i]? = some d->J.go i H /\ ∀ x H',J.yld i H x H'->Same H H'/\Dn K S H' d x
 stop:∀ (S:Addr->Prop) (H:Hp),(∀ g∈G,Dn K S H g.1 g.2) -> ∀ i:Nat,ds.length=i->J.stop i H
noncomputable abbrev WI:=cJ->(List D->Prop)->Prop
noncomputable def aA0(K:PySem.W.Frag)(t:WI):TI:=λσ H R=>∃ (S:Addr->Prop) (ρ:cJ) (Q3:List D->Prop),(∀ a,H a=none->S a)/\Sl K S H ρ σ/\t ρ Q3 /\
 ∀ J H' ds G,Same H H'->(∀ g∈G,Dn K S H' g.1 g.2)->Wlk K J ds G->Q3 ds->R J H'
noncomputable def UN(X:Cx)(tg iter:Expr)(t:WI):Prop:=PI X tg iter (aA0 X.K t)
section
variable{X:Cx}{tg:Expr}
theorem UO{e:Expr}{t t':TI}(h:PI X tg e t)(f:∀ σ H R,t' σ H R->t σ H R):PI X tg e t':=λpins s σ H R I q=>h pins s σ H R I (f σ H R q)
noncomputable def aE5(t:WE):WI:=λρ Q=>t ρ λd=>match d with
 | .lst ds=>Q ds
 | .tup ds=>Q ds
 | _=>False
theorem UP{K:PySem.W.Frag}{a:Addr}{ds:List D}:Wlk K (Itl K a) ds [(.lst ds,.ref a)] where
 go:=λS H fc hg i d e=>by have h:=hg _ (List.mem_singleton.mpr rfl);simp only [Dn] at h;obtain ⟨b,xs,eb,hb,sb,dn⟩:=h;injection eb with eb;subst eb;obtain ⟨v,ev,dv⟩:=dn.get e;refine ⟨⟨xs,v,eO.of hb,ev⟩,λx H' y=>?_⟩;obtain ⟨e1,y⟩:=y;subst e1;have ex:=y xs (eO.of hb);rw [ev] at ex;cases ex;exact ⟨Same.refl _,dv⟩
 stop:=λS H hg i hi=>by have h:=hg _ (List.mem_singleton.mpr rfl);simp only [Dn] at h;obtain ⟨b,xs,eb,hb,sb,dn⟩:=h;injection eb with eb;subst eb;exact ⟨xs,eO.of hb,by rw [<- dn.len]; exact Nat.le_of_eq hi⟩
theorem Y8{K:PySem.W.Frag}{a:Addr}{ds:List D}:Wlk K (Itt K a) ds [(.tup ds,.ref a)] where
 go:=λS H fc hg i d e=>by have h:=hg _ (List.mem_singleton.mpr rfl);simp only [Dn] at h;obtain ⟨b,xs,eb,hb,dn⟩:=h;injection eb with eb;subst eb;obtain ⟨v,ev,dv⟩:=dn.get e;refine ⟨⟨xs,v,(gR.of hb),ev⟩,λx H' y=>?_⟩;obtain ⟨e1,y⟩:=y;subst e1;have ex:=y xs (gR.of hb);rw [ev] at ex;cases ex;exact ⟨Same.refl _,dv⟩
 stop:=λS H hg i hi=>by have h:=hg _ (List.mem_singleton.mpr rfl);simp only [Dn] at h;obtain ⟨b,xs,eb,hb,dn⟩:=h;injection eb with eb;subst eb;exact ⟨xs,(gR.of hb),by rw [<- dn.len]; exact Nat.le_of_eq hi⟩
theorem aCF{l:Expr}{tl:TE}(hl:PE X l tl):PI X tg l (λσ H R=>tl σ H λx H1=>∃ a,x=.ref a/\(((∃ xs,eO X.K H1 a xs)/\R (Itl X.K a) H1)\/((∃ xs,gR X.K H1 a xs)/\R (Itt X.K a) H1))):=by
 intro pins s σ H R I h;refine eS (hl pins s σ H _ I h) λv s1 aJK=>?_;obtain ⟨x,H1,I1,r1,q1⟩:=aJK;obtain ⟨a,e,q⟩:=q1;subst e;cases r1;rcases q with ⟨⟨xs,hq⟩,q⟩ | ⟨⟨xs,hq⟩,q⟩
 .obtain ⟨its,rv,p,hz⟩:=I1.list hq;refine wpAny_pyIter_list p.isList ?_;refine ⟨s1.heap.objs.size,[s1.heap.objs.size],_,_,H1,rfl,I1.kept (t':=s1.toks) λb o e=>Heap.get?_push_of_some _ e,NN a _,⟨_,Heap.get?_push_size _ rfl,rfl,rfl⟩,λb hb=>?_,q⟩;have e:b=s1.heap.objs.size:=by simpa using hb
  subst e;exact I1.FG (Nat.le_refl _) (I1.hok.fresh (Nat.le_refl _))
 .obtain ⟨its,rv,p,hz⟩:=I1.tuple hq;refine wpAny_pyIter_tuple (show s1.heap.IsTuple a its.toArray from p) ?_;refine ⟨s1.heap.objs.size,[s1.heap.objs.size],_,_,H1,rfl,I1.kept (t':=s1.toks) λb o e=>Heap.get?_push_of_some _ e,IB a _,⟨_,Heap.get?_push_size _ rfl,rfl,rfl⟩,λb hb=>?_,q⟩;have e:b=s1.heap.objs.size:=by simpa using hb
  subst e;exact I1.FG (Nat.le_refl _) (I1.hok.fresh (Nat.le_refl _))
theorem aE6{l:Expr}{t:WE}(h:dF X l t):UN X tg l (aE5 t):=UO (aCF h) λσ H R aJL=>by
 obtain ⟨S,ρ,Q3,fc,sl,ht,k⟩:=aJL;refine ⟨S,ρ,_,fc,sl,ht,λv H1 d s1 d1 q1=>?_⟩
 cases d with
 | lst ds =>
  have d1':=d1;simp only [Dn] at d1;obtain ⟨a,xs,rfl,ha,sa,da⟩:=d1;exact ⟨a,rfl,.inl ⟨⟨xs,eO.of ha⟩,k _ H1 ds [(.lst ds,.ref a)] s1 (λg hg=>by cases List.mem_singleton.mp hg; exact d1') UP q1⟩⟩
 | tup ds =>
  have d1':=d1;simp only [Dn] at d1;obtain ⟨a,xs,rfl,ha,da⟩:=d1;exact ⟨a,rfl,.inr ⟨⟨xs,(gR.of ha)⟩,k _ H1 ds [(.tup ds,.ref a)] s1 (λg hg=>by cases List.mem_singleton.mp hg; exact d1') Y8 q1⟩⟩
 | _=>exact q1.elim
noncomputable def vF(lo:Int)(n:Nat):List Int:=(List.range n).map λk:Nat=>lo+(k:Int)
theorem uO(lo:Int)(n:Nat):(vF lo n).length=n:=by simp [vF]
theorem UQ{lo:Int}{n i:Nat}:(vF lo n)[i]? = if i<n then some (lo+(i:Int)) else none:=by
 unfold vF;rw [getElem?_map];by_cases h:i<n
 .rw [if_pos h,getElem?_range h]; rfl
 .rw [if_neg h,getElem?_eq_none (by simpa using h)]; rfl
theorem N5{K:PySem.W.Frag}{lo:Int}{n:Nat}:Wlk K (Itr lo n) ((vF lo n).map D.int) [] where
 go:=λS H fc hg i d e=>by
  rw [getElem?_map,UQ] at e;by_cases h:i<n
  .rw [if_pos h] at e;cases e;refine ⟨h,λx H' y=>?_⟩;obtain ⟨e1,e2⟩:=y;subst e1;exact ⟨Same.refl _,by simp only [Dn]; exact e2⟩
  .rw [if_neg h] at e; cases e
 stop:=λS H hg i hi=>by rw [length_map,uO] at hi; exact Nat.le_of_eq hi
noncomputable def aCG(t:WA):WI:=λρ Q=>t ρ λds=>match ds with
 | [.int j]=>(-(2 ^ 62)<=j/\j<2 ^ 62)/\Q ((vF 0 j.toNat).map D.int)
 | _=>False
theorem aCH{a:Expr}{t:WA}{p pos:Pos}(hm:X.mg "range" = none)(ha:BB X [a] t)(hg:Gl X "range" := by rfl)(hs:starEach [a] X.env=[(false,eval a X.env)]:=by rfl):UN X tg (.Call (.Name "range" p) [a] [] pos) (aCG t) :=
 UO (NO hg hm ha hs) λσ H R aJM=>by
  obtain ⟨S,ρ,Q3,fc,sl,ht,k⟩:=aJM;refine ⟨S,ρ,_,fc,sl,ht,λvs H1 ds s1 d1 q1=>?_⟩;split at q1
  .rename_i j;obtain ⟨v,r,rfl,h1,h2⟩:=d1.bV;simp only [aP] at h2;subst h2;simp only [Dn] at h1;subst h1;exact ⟨j,rfl,q1.1.1,q1.1.2,k _ H1 _ [] s1 (λg hg=>nomatch hg) N5 q1.2⟩
  .exact q1.elim
noncomputable abbrev WG:=D->aS->(aS->Prop)->Prop
noncomputable def aE7(K:PySem.W.Frag)(n:Nat)(g:WG):TG:=λv σ H Q=>∃ (H₀:Hp) (S:Addr->Prop) (w:Nat->Addr) (ρ:aS) (G:List (D×V)) (d:D) (Q3:aS->Prop),σ.length=n/\ST K H₀ S w σ H ρ G/\Dn K (SO S w ρ) H d v/\g d ρ Q3 /\
 ∀ σ' H' ρ',σ'.length=n->ST K H₀ S w σ' H' ρ' G->Q3 ρ'->Q σ' H'
noncomputable def PG3(X:Cx)(tg:Expr)(g:WG):Prop:=PG X tg (aE7 X.K X.N.length g)
theorem N6{e:Expr}{t t':TG}(h:PG X e t)(f:∀ v σ H Q,t' v σ H Q->t v σ H Q):PG X e t':=λpins s σ H v u Q I r q=>h pins s σ H v u Q I r (f v σ H Q q)
noncomputable def gN(i:Nat):WG:=λd ρ Q=>Q (ρ.set i (.ro d))
theorem aE8{i:Nat}{x:Str}{pos:Pos}(hN:X.N.Nodup)(hi:X.N[i]? = some x:=by rfl)(hx:Loc X.env.scope x:=by first | exact .inl rfl | exact .inr rfl)(hf:X.fn x=true\/X.env.scope.names.lookup x=some .local:=by first | exact .inl rfl | exact .inr rfl):PG3 X (.Name x pos) (gN i) :=
 N6 (oY hN hi hx hf) λv σ H Q aJN=>by obtain ⟨H₀,S,w,ρ,G,d,Q3,hl,st,dn,hg,k⟩:=aJN; exact k _ H _ (by rw [length_set]; exact hl) (st.mN (by rw [hl]; exact jV hi) dn) hg
noncomputable def g2(i j:Nat):WG:=λd ρ Q=>match d with
 | .tup [d1,d2]=>Q ((ρ.set i (.ro d1)).set j (.ro d2))
 | _=>False
theorem aE9{i j:Nat}{x y:Str}{k:Nat}{pos px py:Pos}(hc:X.calm=true)(hN:X.N.Nodup)(hi:X.N[i]? = some x:=by rfl)(hj:X.N[j]? = some y:=by rfl)(hx:Loc X.env.scope x:=by first | exact .inl rfl | exact .inr rfl)(hy:Loc X.env.scope y:=by first | exact .inl rfl | exact .inr rfl)
  (hf:X.fn x=true\/X.env.scope.names.lookup x=some .local:=by first | exact .inl rfl | exact .inr rfl) (hf2:X.fn y=true\/X.env.scope.names.lookup y=some .local:=by first | exact .inl rfl | exact .inr rfl)
  (hn:(assignEach [.Name x px,.Name y py] X.env).length=2:=by rfl) (hst:(assignEach [.Name x px,.Name y py] X.env).findIdx? (·.1)=none:=by rfl)
  (hs1:(assignEach [.Name x px,.Name y py] X.env).map (·.2)=assign (.Name x px) X.env::(assignEach [.Name y py] X.env).map (·.2):=by rfl) (hs2:(assignEach [.Name y py] X.env).map (·.2)=assign (.Name y py) X.env::(assignEach [] X.env).map (·.2):=by rfl) :
  PG3 X (.Tuple [.Name x px,.Name y py] k pos) (g2 i j) :=
 N6 (SY (n:=2) hc (rS (oY hN hi hx hf) (rS (oY hN hj hy hf2) LH hs2) hs1) hn hst) λv σ H Q aJO=>by
  obtain ⟨H₀,S,w,ρ,G,d,Q3,hl,st,dn,hg,k⟩:=aJO;unfold g2 at hg;split at hg
  .rename_i d1 d2;simp only [Dn] at dn;obtain ⟨a,xs,rfl,ha,da⟩:=dn;obtain ⟨v1,r1,rfl,h1,h2⟩:=da.bV;obtain ⟨v2,r2,rfl,h3,h4⟩:=h2.bV;simp only [aP] at h4;subst h4;refine ⟨a,_,rfl,(gR.of ha),rfl,v1,[v2],rfl,v2,[],rfl,rfl,?_⟩;have st1:=st.mN (i:=i) (by rw [hl]; exact jV hi) h1;have m:∀ a,SO S w ρ a->SO S w (ρ.set i (.ro d1)) a:=SO.mono λn f hf=>by
    rcases get_set hf with ⟨_,z,_⟩ | ⟨_,z⟩
    .cases z
    .exact ⟨_,z⟩
   have st2:=st1.mN (i:=j) (d:=d2) (v:=v2) (by rw [length_set,hl]; exact jV hj) (Dn.fits (.mono m) _ _ h3);exact k _ H _ (by rw [length_set,length_set]; exact hl) st2 hg
  .exact hg.elim
noncomputable def aJP(ti:WI)(g:WG)(tb:WS):WS:=λE ρ=>ti (kC ρ) λds=>∃ Inv:Nat->aS->Prop,Inv 0 ρ /\
 (∀ (i:Nat) (d:D) (ρ':aS),ds[i]? = some d->Inv i ρ'->g d ρ' λρ2=>tb { E with nx:=Inv (i+1),ct:=Inv (i+1),bk:=E.nx } ρ2) /\ ∀ ρ',Inv ds.length ρ'->E.nx ρ'
theorem aJQ{iter:Expr}{body:List Stmt}{ti:WI}{g:WG}{tb:WS}{pos:Pos}(hc:X.calm=true)(hp:PassesOwn (model X.prog X.w) X.A X.env X.xe)(hi:UN X tg iter ti)(hg:PG3 X tg g)(hb:vE X body tb)
  (hs:∀ x,foldedSetIterable iter X.env x=pure x:=by intro _; rfl):DO X (.For tg iter body [] pos) (aJP ti g tb):=lI (aBW hp hc hi hg hb hs) λB σ H aJR=>by
 obtain ⟨H₀,S,w,ρ,G,E,hl,st,ht,ok⟩:=aJR;refine ⟨_,kC ρ,_,st.QR,st.rd,ht,λJ H1 ds G1 s1 hg1 wk q1=>?_⟩;obtain ⟨Iv,h0,turn,fin⟩:=q1;have stG:∀ {w σ H ρ},ST X.K H₀ S w σ H ρ (G1++G)->ST X.K H₀ S w σ H ρ G:=λst=>st.ghost λg hg=>st.gh g (mem_append_right _ hg);refine ⟨λi m σ H=>m=ds.length - i/\i<=ds.length/\σ.length=X.N.length /\ ∃ w ρ,ST X.K H₀ S w σ H ρ (G1++G)/\Iv i ρ,
  ⟨_,rfl,Nat.zero_le _,hl,w,ρ,(st.same s1).ghost λg hg=>(List.mem_append.mp hg).elim (λz=>hg1 g z) λz=>(st.same s1).gh g z,h0⟩,?_⟩
 rintro i m σ2 H2 ⟨rfl,hi2,hl2,w2,ρ2,st2,iv⟩;by_cases hlt:i<ds.length
 .refine .inr ?_;obtain ⟨g1,g2⟩:=wk.go _ H2 st2.QR (λg hg=>st2.gh g (mem_append_left _ hg)) i ds[i] (by simp [hlt]);refine ⟨g1,λσ' H'=>σ'.length=X.N.length /\ ∃ w ρ,ST X.K H₀ S w σ' H' ρ (G1++G)/\Iv (i+1) ρ,λσ' H' ⟨hl',w',ρ',st',iv'⟩=>⟨ds.length - (i+1),by omega,rfl,hlt,hl',w',ρ',st',iv'⟩,λx H' y=>?_⟩;obtain ⟨s3,dx⟩:=g2 x H' y;refine ⟨H₀,S,w2,ρ2,G1++G,ds[i],_,hl2,st2.same s3,dx,turn i ds[i] ρ2 (by simp [hlt]) iv,λσ4 H4 ρ4 hl4 st4 q4=>?_⟩;exact ⟨H₀,S,w2,ρ4,G1++G,_,hl4,st4,q4,⟨λw' σ' H' ρ' hl' st' q=>⟨hl',w',ρ',st',q⟩,λv H' d s' d' q=>ok.rt v H' d s' d' q,λw' σ' H' ρ' hl' st' q=>ok.nx w' σ' H' ρ' hl' (stG st') q,λw' σ' H' ρ' hl' st' q=>⟨hl',w',ρ',st',q⟩,ok.ex⟩⟩
 .have e:i=ds.length:=by omega
  subst e;exact .inl ⟨wk.stop _ H2 (λg hg=>st2.gh g (mem_append_left _ hg)) _ rfl,ok.nx w2 σ2 H2 ρ2 hl2 (stG st2) (fin ρ2 iv)⟩
end
theorem IY{scope:Scope}{env:Env}(h:∀ x∈scope.names,x.2=.free -> ∃ c,env.cells.lookup x.1=some c) :
  ∃ cl,closureFor scope env=pure cl/\(∀ x∈scope.names,x.2=.free->cl.lookup x.1=env.cells.lookup x.1) /\ ∀ x c,cl.lookup x=some c->env.cells.lookup x=some c:=by
 have go:∀ (l:List (Str×NameKind)) (acc:List (Str×Addr)),(∀ x∈l,x.2=.free -> ∃ c,env.cells.lookup x.1=some c)->(∀ x c,acc.lookup x=some c->env.cells.lookup x=some c) ->
   ∃ cl,(forIn l acc λ(x:Str×NameKind) (cs:List (Str×Addr))=>(match x with | (name,kind)=>if (kind == NameKind.free)=true then (do let c <- cellOf env name; pure (ForInStep.yield ((name,c)::cs))) else pure (ForInStep.yield cs):Sem (ForInStep (List (Str×Addr)))))=pure cl /\
    (∀ x c,acc.lookup x=some c->cl.lookup x=some c)/\(∀ x∈l,x.2=.free->cl.lookup x.1=env.cells.lookup x.1) /\ ∀ x c,cl.lookup x=some c->env.cells.lookup x=some c:=by
  intro l
  induction l with
  | nil=>intro acc _ ha; exact ⟨acc,by rw [forIn_nil],λ_ _ z=>z,λx hx=>(nomatch hx),ha⟩
  | cons y l ih =>
   intro acc hf ha;by_cases hk:y.2=.free
   .obtain ⟨c,hc⟩:=hf y mem_cons_self hk;have ha':∀ x c',((y.1,c)::acc).lookup x=some c'->env.cells.lookup x=some c':=λx c' hx=>by
     rw [lookup_cons] at hx;split at hx
     .rename_i e;cases hx;rw [eq_of_beq e]; exact hc
     .exact ha x c' hx
    obtain ⟨cl,e,h1,h2,h3⟩:=ih ((y.1,c)::acc) (λx hx=>hf x (mem_cons_of_mem _ hx)) ha';refine ⟨cl,?_,λx c' hx=>?_,λx hx hfx=>?_,h3⟩
    .rw [forIn_cons,<- e];have e1:(y.2 == NameKind.free)=true:=by rw [hk]; rfl
     have e2:cellOf env y.1=pure c:=by unfold cellOf; rw [hc]
     obtain ⟨yn,yk⟩:=y;dsimp only at e1 e2 ⊢;rw [if_pos e1,e2];rfl
    .by_cases hxy:x=y.1
     .subst hxy;have e3:((y.1,c)::acc).lookup y.1=some c:=by simp
      have e4:=ha _ _ hx;rw [hc] at e4;cases e4;exact h1 _ _ e3
     .refine h1 x c' ?_;rw [lookup_cons];have:(x == y.1)=false:=by simpa using hxy
      rw [this]; exact hx
    .rcases List.mem_cons.mp hx with rfl | hx
     .rw [hc]; exact h1 _ _ (by simp)
     .exact h2 x hx hfx
   .obtain ⟨cl,e,h1,h2,h3⟩:=ih acc (λx hx=>hf x (mem_cons_of_mem _ hx)) ha;refine ⟨cl,?_,h1,λx hx hfx=>?_,h3⟩
    .rw [forIn_cons,<- e];have e1:¬ (y.2 == NameKind.free)=true:=by simpa using hk
     obtain ⟨yn,yk⟩:=y;dsimp only at e1 ⊢;rw [if_neg e1];rfl
    .rcases List.mem_cons.mp hx with rfl | hx
     .exact absurd hfx hk
     .exact h2 x hx hfx
 obtain ⟨cl,e,_,h2,h3⟩:=go scope.names [] h (λx c z=>by simp at z);refine ⟨cl,?_,h2,h3⟩;have e':=congrArg (λt=>t >>= λr=>(pure r:Sem (List (Str×Addr)))) e;exact e'
theorem hW:∀ (l:List (Str×NameKind)) (n:Nat) (own cl:List (Str×Addr)),cellsFrom n l (own++cl)=cellsFrom n l own++cl
 | [],_,_,_=>rfl
 | (x,k)::r,n,own,cl=>by
  unfold cellsFrom;split
  .exact hW r (n+1) ((x,n)::own) cl
  .exact hW r n own cl
theorem jW:∀ (l:List (Str×NameKind)) (n:Nat) (own:List (Str×Addr)) (p:Str×Addr),p∈cellsFrom n l own->p∈own\/(p.1,NameKind.cell)∈l
 | [],_,_,_,h=>.inl h
 | (x,k)::r,n,own,p,h=>by
  unfold cellsFrom at h;split at h
  .rename_i hk;rcases jW r _ _ p h with h | h
   .rcases List.mem_cons.1 h with rfl | h
    .exact .inr (by rw [<- eq_of_beq hk]; exact mem_cons_self)
    .exact .inl h
   .exact .inr (mem_cons_of_mem _ h)
  .rcases jW r _ _ p h with h | h
   .exact .inl h
   .exact .inr (mem_cons_of_mem _ h)
theorem kT:∀ (l:List (Str×NameKind)) (n:Nat) (own:List (Str×Addr)) (x:Str),((∃ c,own.lookup x=some c)\/(x,NameKind.cell)∈l) -> ∃ c,(cellsFrom n l own).lookup x=some c
 | [],_,_,_,h=>h.elim id λz=>(nomatch z)
 | (y,k)::r,n,own,x,h=>by
  unfold cellsFrom;split
  .refine kT r _ _ x ?_;by_cases e:x=y
   .exact .inl ⟨n,by rw [e,lookup_cons,beq_self_eq_true]⟩
   .rcases h with ⟨c,h⟩ | h
    .exact .inl ⟨c,by rw [lookup_cons,beq_eq_false_iff_ne.mpr e]; exact h⟩
    .rcases List.mem_cons.mp h with z | z
     .exact absurd (Prod.mk.inj z).1 e
     .exact .inr z
  .rename_i hk;refine kT r _ _ x (h.imp_right λz=>?_);rcases List.mem_cons.mp z with z | z
   .rw [<- (Prod.mk.inj z).2] at hk; exact absurd rfl hk
   .exact z
theorem N7{M:Model}{A:Around}{E:Value->Shared->Prop}{s:Shared}{sc:Scope}{g:Addr}{cl:List (Str×Addr)}{q:Str}{f:Option Addr}{code:Value}{env:Env}{bl:Addr}{Q:Env->Shared->Prop}
  (h:∀ h4:Heap,h4.Ns s.heap.objs.size (λ_=>none)->(∀ b o,s.heap.get? b=some o->h4.get? b=some o)->CellsOk h4 (s.heap.objs.size+1) (cellsFrom (s.heap.objs.size+1) sc.names []) ->
   Q (newEnv sc s.heap.objs.size g (cellsFrom (s.heap.objs.size+1) sc.names cl) q f code (some env) bl) { s with heap:=h4 }) :
  wpAny M A (newFunctionEnv sc g cl [] q f code (some env) bl) Q E s:=by
 unfold newFunctionEnv;refine wpAny_bind (wpAny_alloc (wpAny_bind (wpAny_layCells _ (λx k c=>by cases e:k == NameKind.cell<;>simp [e]) _ _ _ _ ?_)));have hz:∀ o:Obj,(s.heap.push o).objs.size=s.heap.objs.size+1:=λo=>Heap.size_push ..;have ok:=λo=>cellsFrom_ok sc.names (s.heap.push o) (s.heap.objs.size+1) [] ⟨λ_ _ z=>(nomatch z),.nil⟩ (by rw [hz]; exact Nat.le_refl _);simp only [hz] at ok ⊢;rw [forIn_nil];exact wpAny_bind (wpAny_pure (wpAny_pure (h _ ((Heap.Ns.new s.heap _).keeps (pushCells_keeps _ _)) (λb o e=>pushCells_keeps _ _ b o (Heap.get?_push_of_some _ e)) (ok _))))
noncomputable def blk(X:Cx)(N:List Str)(sc:Scope)(cl:List (Str×Addr))(C:Addr)(pn:List (Addr×Obj))(ex:List Addr)(s₀:Shared)(H₀:Hp):Cx :=
 { X with N:=N,s₀:=s₀,H₀:=H₀,env:=compEnvC sc cl C X.env,outer:=X.stack,stack:=X.stack,ex:=ex,fn:=λx=>sc.names.lookup x == some NameKind.cell,pn:=pn,xe:=λ_ _=>False }
noncomputable def FT(nl:Nat)(fr:List Nat)(σ:L2.St):L2.St:=List.replicate nl none++fr.map λj=>(σ[j]?).join
structure FU (X:Cx) (ls fs:List Str) (fr:List Nat) (sc:Scope):Prop where
 kind:sc.kind=.function
 nd:(ls++fs).Nodup
 uniq:∀ x∈sc.names,sc.names.lookup x.1=some x.2
 free:∀ x∈sc.names,x.2=.free->X.env.kindOf x.1=some .cell\/X.env.kindOf x.1=some .free
 slot:∀ (k:Nat) (x:Str),fs[k]? = some x -> ∃ j,fr[k]? = some j/\X.N[j]? = some x/\(x,NameKind.free)∈sc.names/\sc.names.lookup x=some .free
 DN:fr.length=fs.length
section
variable{X:Cx}
theorem uP(t:Str->NameKind->NameKind)(x:Str):∀ l:List (Str×NameKind),(l.map λp=>(p.1,t p.1 p.2)).lookup x=(l.lookup x).map (t x)
 | []=>rfl
 | (n,k)::r=>by
  rw [map_cons,lookup_cons,lookup_cons];by_cases hx:(x == n)=true
  .rw [hx,eq_of_beq hx]; rfl
  .rw [Bool.not_eq_true] at hx;rw [hx];exact uP t x r
theorem yG{sc:Scope}{env:Env}{x:Str}{l:List (Str×NameKind)}:(l.map λ(n,k)=>if (k == NameKind.free&&env.scope.kind == .function&&env.kindOf n == some .cell) then (n,NameKind.cell) else (n,k)).lookup x =
  (l.lookup x).map λk=>if (k == NameKind.free&&env.scope.kind == .function&&env.kindOf x == some .cell) then NameKind.cell else k:=by
 rw [<- uP (λy k=>if (k == NameKind.free&&env.scope.kind == .function&&env.kindOf y == some .cell) then NameKind.cell else k) x l];refine congrArg (List.lookup x) (map_congr_left λp _=>?_);dsimp only;split<;>rfl
theorem ne_size{b c:Addr}{h:Heap}{o:Obj}(e:h.get? b=some o)(hc:c=h.objs.size):b≠c:=λz=>Nat.lt_irrefl _ (by have q:=Heap.lt_size e; rw [z,hc] at q; exact q)
theorem FV{b c:Addr}{n:Nat}(h:b<n)(hc:n<=c):b≠c:=λz=>Nat.lt_irrefl c (Nat.lt_of_lt_of_le (z▸h) hc)
theorem Y9{ls fs:List Str}{fr:List Nat}{sc:Scope}{cl:List (Str×Addr)}{C:Addr}{pins:List (Addr×Obj)}{ex:List Addr}{σ:L2.St}{H:Hp}{s s4:Shared}(B:FU X ls fs fr sc)(I:Inv X pins σ H s)
  (hcl:∀ x∈sc.names,x.2=.free->cl.lookup x.1=X.env.cells.lookup x.1) (DP:∀ x c,cl.lookup x=some c->X.env.cells.lookup x=some c\/(C<c/\s4.heap.IsCell c none)) (aEa:∀ x∈sc.names,x.2=.cell -> ∃ c,cl.lookup x.1=some c/\C<c)
  (hinj:∀ x y c,cl.lookup x=some c->cl.lookup y=some c->x=y) (hex:∀ b∈ex,pH X pins H b/\b<s.heap.objs.size)
  (hC:C=s.heap.objs.size) {m:Str->Option Value} (hn:s4.heap.Ns C m) (hk:∀ b o,s.heap.get? b=some o->s4.heap.get? b=some o) (ho:s4.os=s.os) (hg:s4.gens=s.gens) :
  Inv (blk X (ls++fs) sc cl C (X.pn++pins) ex s H) [] (FT ls.length fr σ) H s4:=by
 have ltC:∀ {b:Addr} {o:Obj},s.heap.get? b=some o->b≠C:=λe=>ne_size e hC;have aOm:∀ x c,cl.lookup x=some c->c≠C:=λx c e=>by
  rcases DP x c e with e | ⟨e,_⟩
  .obtain ⟨v,o,ho,_⟩:=I.cell x c e;exact ltC ho
  .exact Nat.ne_of_gt e
 have kOf:∀ x,(compEnvC sc cl C X.env).kindOf x=(sc.names.lookup x).map λk=>if (k == NameKind.free&&X.env.scope.kind == .function&&X.env.kindOf x == some .cell) then NameKind.cell else k:=λx=>yG (sc:=sc)
 have okX:(blk X (ls++fs) sc cl C (X.pn++pins) ex s H).Ok:=by
  refine ⟨I.ok.mod,B.kind,I.ok.glob,I.ok.blt,(by show s.heap.objs.size<=C; rw [hC]; exact Nat.le_refl _),hinj,λx hx=>?_,λx c hf hl=>?_,I.ok.hd,I.ok.frames,.inl rfl,λb hb=>?_,λb o e=>I.bs b o e,Nat.le_trans I.ok.YA I.sz,λb o e hb=>?_,λb hb=>?_,I.stack,I.LB,I.tab⟩
  ·-- a cell or free name of the block
   have hx':∃ k,sc.names.lookup x=some k/\((if (k == NameKind.free&&X.env.scope.kind == .function&&X.env.kindOf x == some .cell) then NameKind.cell else k)=.cell\/(if (k == NameKind.free&&X.env.scope.kind == .function&&X.env.kindOf x == some .cell) then NameKind.cell else k)=.free):=by
    have hx:(compEnvC sc cl C X.env).kindOf x=some .cell\/(compEnvC sc cl C X.env).kindOf x=some .free:=hx;rw [kOf] at hx
    cases e:sc.names.lookup x with
    | none=>rw [e] at hx; rcases hx with hx | hx<;>cases hx
    | some k=>rw [e] at hx; exact ⟨k,rfl,hx.imp (λz=>Option.some.inj z) λz=>Option.some.inj z⟩
   obtain ⟨k,e,hk'⟩:=hx';have hm:=PySem.mem_of_lookup e;by_cases kf:k=.free
   .subst kf;have q:=hcl _ hm rfl;obtain ⟨c,hc⟩:=I.ok.has x (B.free _ hm rfl);exact ⟨c,q.trans hc⟩
   .have e2:(k == NameKind.free)=false:=by simpa using kf
    rw [e2] at hk';simp only [Bool.false_and,Bool.false_eq_true,if_false] at hk';rcases hk' with z | z
    .obtain ⟨c,hc,_⟩:=aEa _ hm z;exact ⟨c,hc⟩
    .exact absurd z kf
  ·-- an own cell is new
   obtain ⟨c',hc',hlt⟩:=aEa _ (PySem.mem_of_lookup (eq_of_beq hf)) rfl;have hc':cl.lookup x=some c':=hc';have hl:cl.lookup x=some c:=hl;rw [hl] at hc';cases hc';rw [hC] at hlt;exact Nat.le_of_lt hlt
  .refine ⟨FV (hex b hb).2 (Nat.le_of_eq hC.symm),λx c e=>?_⟩;rcases DP x c e with e | ⟨e,_⟩
   .exact (hex b hb).1.2.2.2.2.1 x c e
   .exact Ne.symm (FV (hex b hb).2 (by rw [<- hC]; exact Nat.le_of_lt e))
  .obtain ⟨⟨_,_,_,f3,_,_⟩,_⟩:=hex b hb;rcases f3 with f3 | f3
   .exact I.ok.SQ b o e f3
   .exact absurd (Nat.lt_of_lt_of_le (Heap.lt_size e) (Nat.le_trans I.ok.YA f3)) (Nat.lt_irrefl _)
  .intro z;obtain ⟨⟨_,f1,f2,_,_,_⟩,_⟩:=hex b hb;rcases List.mem_cons.mp (I.x5 b z) with z | z
   .exact f1 z
   .exact f2 z
 refine ⟨okX,ho,by rw [hg]; exact I.bare,Un.kept hk,⟨m,hn,λi x v h1 h2 h3=>?_⟩,λx c e=>?_,?_,λx c e=>?_,λp hp=>?_,I.hok.kept hk,?_⟩
 ·-- a name with a value is one from around
  have hi:¬ i<ls.length:=λhi=>by unfold FT at h2;rw [getElem?_append_left (by simpa using hi),getElem?_replicate,if_pos hi] at h2;cases h2
  have e1:fs[i - ls.length]? = some x:=by have h1:(ls++fs)[i]? = some x:=h1;rw [getElem?_append_right (by omega)] at h1;exact h1
  obtain ⟨j,ej,eN,hm,hlk⟩:=B.slot _ _ e1;have e2:(σ[j]?).join=some v:=by unfold FT at h2;rw [getElem?_append_right (by simpa using hi),getElem?_map,length_replicate,ej] at h2;exact Option.some.inj h2
  have e3:σ[j]? = some (some v):=by
   cases q:σ[j]? with
   | none=>rw [q] at e2; cases e2
   | some o=>rw [q] at e2; rw [show o=some v from e2]
  have hfr:=B.free _ hm rfl;have vis:AZ X.env.scope x:=.inr hfr;obtain ⟨mm,hnm,hl⟩:=I.loc;obtain ⟨u,r,l⟩:=hl j x v eN e3 vis;refine ⟨u,r,?_⟩;rcases l with ⟨k1,_⟩ | ⟨k1,c,ec,zc⟩
  .have k1:X.env.kindOf x=some .local:=k1;rcases hfr with z | z<;>rw [k1] at z<;>cases z
  .refine .inr ⟨?_,c,(hcl _ hm rfl).trans ec,?_⟩
   .show (compEnvC sc cl C X.env).kindOf x=some .cell\/(compEnvC sc cl C X.env).kindOf x=some .free;rw [kOf,hlk];dsimp only [Option.map];split
    .exact .inl rfl
    .exact .inr rfl
   .obtain ⟨oc,hoc,hd⟩:=zc;exact ⟨oc,hk _ _ hoc,hd⟩
 .rcases DP x c e with e | ⟨_,e⟩
  .obtain ⟨v,oc,hoc,hd⟩:=I.cell x c e;exact ⟨v,oc,hk _ _ hoc,hd⟩
  .exact ⟨none,e⟩
 .show H C=none;rw [hC]; exact I.hok.fresh (Nat.le_refl _)
 .rcases DP x c e with e | ⟨e,_⟩
  .exact I.nY x c e
  .exact I.hok.fresh (by rw [<- hC]; exact Nat.le_of_lt e)
 .have hp:p∈(X.pn++pins)++[]:=hp;rw [append_nil] at hp;obtain ⟨e,n,ne,nf,d⟩:=I.pin p hp;refine ⟨hk _ _ e,n,ltC e,λz=>?_,d⟩;rcases List.mem_cons.mp (I.x5 _ z) with z | z
  .exact ne z
  .exact nf z
 .show (FT ls.length fr σ).length=(ls++fs).length;unfold FT;rw [List.length_append,List.length_append,length_replicate,length_map,B.DN]
theorem UR{ls fs:List Str}{sc:Scope}{cl:List (Str×Addr)}{C:Addr}{pins LD:List (Addr×Obj)}{ex:List Addr}{σ σ':L2.St}{H H':Hp}{s s':Shared}{h':Heap}(I:Inv X pins σ H s)
  (J:Inv (blk X (ls++fs) sc cl C (X.pn++pins) ex s H) LD σ' H' s') (hex:∀ b∈ex,pH X pins H b) (hC:C=s.heap.objs.size) (hs:Heap.SameBut C s'.heap h'):Inv X pins σ H' { s' with heap:=h' }:=by
 have ltC:∀ {b:Addr} {o:Obj},s.heap.get? b=some o->b≠C:=λe=>ne_size e hC;have fr:H' C=none:=J.free;have un:Un (frs X.stack) ex H H' s.heap s'.heap:=J.base;refine I.call' (s':={ s' with heap:=h' }) (ch:=ex) J.os ⟨λb o e n hb hx=>(hs.2 b (ltC e)).trans (un.keep b o e n hb hx),λb o e n hb hx=>?_,un.free,λb o e hx=>?_,un.tups,un.tM,un.rR⟩ ?_ J.bare λb hb=>?_
 .obtain ⟨sl,q⟩:=un.slot b o e n hb hx;exact ⟨sl,(hs.2 b (ltC e)).trans q⟩
 .obtain ⟨o',q⟩:=un.there b o e hx;exact ⟨o',(hs.2 b (ltC e)).trans q⟩
 .intro b ob e;refine (J.hok b ob e).stay (λc u hc q=>(hs.2 c ?_).trans q) (λ_ q=>q) λ_ _ q=>q;intro z;rcases hc with hc | hc
  .rw [z] at hc; rw [<- hc,fr] at e; cases e
  .rw [z,fr] at hc; cases hc
 .obtain ⟨_,f1,_,f3,f4,f5⟩:=hex b hb;exact ⟨f3,f1,f4,f5⟩
noncomputable abbrev aCI(ifs:List Expr)(env:Env):Sem Bool:=forIn ifs true λc r=>if r=true then (do let b <- isTrue c env (eval c env); pure (ForInStep.yield b)) else pure (ForInStep.yield r)
noncomputable abbrev Calm(prog:Program)(w:World)(A:Around){α:Type}(t:Sem α)(Q:α->Shared->Prop)(s:Shared):Prop:=wpAny (model prog w) A t Q (λ_ _=>False) s
theorem oA{prog:Program}{w:World}{A:Around}{R:Result->Shared->Prop}{s:Shared}{el tg src:Expr}{ifs:List Expr}{bs:Scope}{at_:Pos}{it acc:Value}{env:Env}(Iv:Nat->Shared->Prop)
  (turn:∀ n s,Iv n s->Calm prog w A (pyNext it) (λgot s1=>match got with
   | none=>R (.ok .next) s1
   | some v=>Calm prog w A (letOwnedTupleGo tg it v) (λ_ s2=>Calm prog w A (assign tg env v) (λ_ s3=>Calm prog w A (aCI ifs env) (λok s4 =>
     if ok=true then Calm prog w A (eval el env) (λx s5=>Calm prog w A (call (.builtin "list.append") [acc,x]) (λ_ s6=>∃ m,m<n/\Iv m s6) s5) s4 else ∃ m,m<n/\Iv m s4) s3) s2) s1) s)
  (n:Nat) (h:Iv n s):codeAny (model prog w) A (.compLoop (.ListComp el [⟨tg,src,ifs,0⟩] bs at_) 0 it acc env) R s:=by
 have no:∀ {α:Type} {E:Value->Shared->Prop} {t:Sem α} {Q Q':α->Shared->Prop} {s:Shared},Calm prog w A t Q s->(∀ a s,Q a s->Q' a s)->wpAny (model prog w) A t Q' E s:=λh f=>wpAny_mono h f λ_ _ z=>z.elim;refine codeAny_loop rfl Iv (λn s hI=>?_) n h;refine wpAny_noted (m:=compTurn (.ListComp el [⟨tg,src,ifs,0⟩] bs at_) 0 it acc env) ?_;rw [compTurn_list];refine wpAny_bind (wpAny_standAt (wpAny_bind (no (turn n s hI) λgot s1 h1=>?_)))
 match got,h1 with
 | none,h1=>exact wpAny_pure h1
 | some v,h1 =>
  refine wpAny_bind (no h1 λ_ _ h2=>wpAny_bind (no h2 λ_ _ h3=>wpAny_bind (no h3 λok s4 h4=>?_)))
  match ok,h4 with
  | false,h4=>exact wpAny_pure (And.intro rfl h4)
  | true,h4=>exact wpAny_bind (wpAny_bind (no h4 λ_ _ h5=>wpAny_bind (no h5 λ_ _ h6=>wpAny_pure (wpAny_pure (And.intro rfl h6)))))
noncomputable abbrev TFk:=L2.St->Hp->(Bool->Hp->Prop)->Prop
noncomputable def PIf(X:Cx)(ifs:List Expr)(t:TFk):Prop :=
 ∀ (pins:List (Addr×Obj)) (s:Shared) (σ:L2.St) (H:Hp) (Q:Bool->Hp->Prop),Inv X pins σ H s->t σ H Q ->
  wpAny (model X.prog X.w) X.A (forIn ifs true λc r=>if r=true then do let ok <- isTrue c X.env (eval c X.env); pure (ForInStep.yield ok) else pure (ForInStep.yield r)) (TP X pins σ Q) X.xe s
theorem ZA:PIf X [] (λ_ H Q=>Q true H):=λpins s σ H Q I h=>by rw [forIn_nil];exact wpAny_pure ⟨H,I,h⟩
theorem aCJ{c:Expr}{t:TT}(h:PT X c t):PIf X [c] t:=λpins s σ H Q I hw=>by rw [forIn_cons];refine wpAny_bind ?_;rw [if_pos rfl];refine wpAny_bind (eS (h pins s σ H Q I hw) λb s1 q=>wpAny_pure ?_);dsimp only;rw [forIn_nil];exact wpAny_pure q
noncomputable def LY(nl:Nat)(fr:List Nat)(wi:TI)(g:TG)(tf:TFk)(te:TE):TE:=λσ H Q=>wi σ H λJ H1=>∀ acc,H1 acc=none -> ∃ W:Nat->Nat->Hp->List V->Prop,(∃ m,W 0 m (upd H1 acc (.lst [])) []) /\
 ∀ i m H ys,W i m H ys->H acc=some (.lst ys)/\((J.stop i H/\Q (.ref acc) H)\/(J.go i H /\ ∀ x H',J.yld i H x H'->g x (FT nl fr σ) H' λσ2 H2=>(σ2.drop nl=fr.map λj=>(σ[j]?).join)/\tf σ2 H2 λb H3 =>
  if b=true then te σ2 H3 λy H4=>H4 acc=some (.lst ys)/\ys.length<sizeLine /\ ∃ m',m'<m/\W (i+1) m' (upd H4 acc (.lst (ys++[y]))) (ys++[y]) else ∃ m',m'<m/\W (i+1) m' H3 ys))
theorem FW{ls fs:List Str}{fr:List Nat}{sc:Scope}{tg iter elt:Expr}{ifs:List Expr}{pos p2:Pos}{wi:TI}{g:TG}{tf:TFk}{te:TE}{pins:List (Addr×Obj)}{σ:L2.St}{H:Hp}{s:Shared}{Qe:VK}{use:Option (Value->Sem Unit)}{Qv:Value->Shared->Prop}
  (hc:X.calm=true) (B:FU X ls fs fr sc) (hi:PI X tg iter wi) (hg:∀ cl C pn ex s H,PG (blk X (ls++fs) sc cl C pn ex s H) tg g) (hf:∀ cl C pn ex s H,PIf (blk X (ls++fs) sc cl C pn ex s H) ifs tf) (he:∀ cl C pn ex s H,PE (blk X (ls++fs) sc cl C pn ex s H) elt te)
  (hs:∀ x,foldedSetIterable iter X.env x=pure x) (I:Inv X pins σ H s) (h:LY ls.length fr wi g tf te σ H Qe)
  (fin:∀ acc C s' H',Inv X pins σ H' s'->(∃ m,s'.heap.Ns C m)->pH X pins H' C->Qe (.ref acc) H'->compPost (model X.prog X.w) X.A X.xe use Qv (.ref acc) C (.ok .next) s') :
  wpAny (model X.prog X.w) X.A (comprehension (.ListComp elt [⟨tg,iter,ifs,0⟩] sc pos) sc X.env p2 (newList []) false (eval iter X.env) use) Qv X.xe s:=by
 obtain ⟨cl,ecl,hcl,DP⟩:=IY (scope:=sc) (env:=X.env) λx hx hf=>I.ok.has x.1 (B.free x hx hf);refine wpAny_comprehension_free (g:=⟨tg,iter,ifs,0⟩) (gs:=[]) rfl hs ecl B.kind (λx hx e=>(B.uniq x hx).trans (congrArg some e)) ?_;refine eS (hi pins s σ H _ I h) λv s1 h1=>eS h1 λitv s2 h2=>?_;obtain ⟨it,fp,tn,J,H2,e,I2,T,st2,f2,h2⟩:=h2;subst e;refine wpAny_newObj_type ?_ (by show ([]:List Value).toArray.size<=sizeLine; simp);have hacc:H2 s2.heap.objs.size=none:=I2.hok.fresh (Nat.le_refl _);have I3:Inv X pins σ (upd H2 s2.heap.objs.size (.lst [])) { s2 with heap:=s2.heap.push { cls:=.type "list",data:=.seq ([]:List Value).toArray } } :=
  I2.laid (t':=s2.toks) (λb o e=>Heap.get?_push_of_some _ e) (Nat.le_refl _) ⟨by simp,[],0,.nil,Heap.get?_push_size _ rfl⟩
 have hfp:∀ b∈fp,b<s2.heap.objs.size:=λb hb=>by obtain ⟨o,e,_⟩:=T.obj _ _ st2 b hb; exact Heap.lt_size e
 obtain ⟨W,⟨m0,w0⟩,turn⟩:=h2 _ hacc;generalize FX:s2.heap.objs.size=acc at hacc I3 w0 turn ⊢;have aJU:∀ b∈fp,b≠acc:=λb hb=>FV (hfp b hb) (Nat.le_of_eq FX);have f3:∀ b∈fp,pH X pins (upd H2 acc (.lst [])) b:=λb hb=>⟨by rw [bA (aJU b hb)]; exact (f2 b hb).1,(f2 b hb).2⟩;generalize hs3:({ s2 with heap:=s2.heap.push { cls:=.type "list",data:=.seq ([]:List Value).toArray } }:Shared)=s3 at I3;have hsz3:s3.heap.objs.size=acc+1:=by rw [<- hs3]; show (s2.heap.push _).objs.size=_; rw [Heap.size_push,FX]
 have st3:tn 0 s3.heap:=T.keep _ _ _ st2 λb hb o e=>by rw [<- hs3]; exact Heap.get?_push_of_some _ e
 refine N7 λh4 hn4 hk4 co=>?_;generalize hC:s3.heap.objs.size=C at hn4 co ⊢;have eC:cellsFrom (C+1) sc.names cl=cellsFrom (C+1) sc.names []++cl:=hW sc.names (C+1) [] cl;generalize hcs:cellsFrom (C+1) sc.names []=cs at co eC;have own:∀ x c,cs.lookup x=some c->(x,NameKind.cell)∈sc.names/\C<c/\h4.IsCell c none:=λx c e=>by
  have m:=PySem.mem_of_lookup e;refine ⟨?_,(co.empty x c m).2,(co.empty x c m).1⟩;rw [<- hcs] at m;rcases jW _ _ _ _ m with z | z
  .cases z
  .exact z
 generalize hdl:cellsFrom (C+1) sc.names cl=dl at eC ⊢;have two:∀ x c,dl.lookup x=some c->cs.lookup x=some c\/(cs.lookup x=none/\cl.lookup x=some c):=λx c e=>by
  rw [eC,List.lookup_append] at e
  cases q:cs.lookup x with
  | none=>rw [q] at e; exact .inr ⟨rfl,e⟩
  | some d=>rw [q] at e; exact .inl e
 have aJV:∀ x∈sc.names,x.2=.free->dl.lookup x.1=X.env.cells.lookup x.1:=λx hx e=>by
  rw [<- hcl x hx e,eC,List.lookup_append]
  cases q:cs.lookup x.1 with
  | none=>rfl
  | some d =>
   have z:=B.uniq _ (own _ _ q).1;rw [B.uniq x hx,e] at z;cases z
 have aEc:∀ x c,dl.lookup x=some c->X.env.cells.lookup x=some c\/(C<c/\h4.IsCell c none):=λx c e=>by
  rcases two x c e with e | ⟨_,e⟩
  .exact .inr (own x c e).2
  .exact .inl (DP x c e)
 have aJW:∀ x∈sc.names,x.2=.cell -> ∃ c,dl.lookup x.1=some c/\C<c:=λx hx e=>by obtain ⟨c,hc⟩:=kT sc.names (C+1) [] x.1 (.inr (by rw [<- e]; exact hx));rw [hcs] at hc;exact ⟨c,by rw [eC,List.lookup_append,hc]; rfl,(own _ _ hc).2.1⟩
 have low:∀ x c,cl.lookup x=some c->c<C:=λx c e=>by obtain ⟨v,o,ho,_⟩:=I3.cell x c (DP x c e);rw [<- hC]; exact Heap.lt_size ho
 have aJX:∀ x y c,dl.lookup x=some c->dl.lookup y=some c->x=y:=λx y c e e'=>by
  rcases two x c e with e | ⟨_,e⟩<;>rcases two y c e' with e' | ⟨_,e'⟩
  .exact name_of_addr co.apart (PySem.mem_of_lookup e) (PySem.mem_of_lookup e')
  .exact absurd (own _ _ e).2.1 (Nat.lt_asymm (low _ _ e'))
  .exact absurd (own _ _ e').2.1 (Nat.lt_asymm (low _ _ e))
  .exact I3.ok.inj x y c (DP x c e) (DP y c e')
 have I4:Inv (blk X (ls++fs) sc dl C (X.pn++pins) fp s3 (upd H2 acc (.lst []))) [] (FT ls.length fr σ) (upd H2 acc (.lst [])) { s3 with heap:=h4 } :=
  Y9 B I3 aJV aEc aJW aJX (λb hb=>⟨f3 b hb,by rw [hsz3,<- FX]; exact Nat.lt_succ_of_lt (hfp b hb)⟩) hC.symm hn4 hk4 rfl rfl
 generalize hX:blk X (ls++fs) sc dl C (X.pn++pins) fp s3 (upd H2 acc (.lst []))=Y at I4;have pY:Y.prog=X.prog:=by rw [<- hX]; rfl
 have wY:Y.w=X.w:=by rw [<- hX]; rfl
 have kY:Y.K=X.K:=by rw [<- hX]; rfl
 have AY:Y.A=X.A:=by rw [<- hX]; rfl
 have cY:Y.calm=true:=by rw [<- hX]; exact hc
 have eY:Y.env=compEnvC sc dl C X.env:=by rw [<- hX]; rfl
 have xY:Y.xe=λ_ _=>False:=by rw [<- hX]; rfl
 have US:∀ {H':Hp},(∀ b∈fp,H' b=none) -> ∀ b∈fp,pH Y [] H' b:=λhn b hb=>by
  rw [<- hX];obtain ⟨_,f1,f2',_,f4,f5⟩:=f3 b hb;refine ⟨hn b hb,λz=>?_,λz=>?_,.inl hb,λx c e=>?_,λp hp=>f5 p ?_⟩
  .exact absurd z (FV (hfp b hb) (by rw [<- hC,hsz3,FX]; exact Nat.le_succ _))
  .rcases List.mem_cons.mp (I3.x5 b z) with z | z
   .exact f1 z
   .exact f2' z
  .rcases aEc x c e with e | ⟨e,_⟩
   .exact f4 x c e
   .exact Ne.symm (FV (hfp b hb) (by rw [FX]; exact Nat.le_of_lt (Nat.lt_trans (by rw [<- hC,hsz3]; exact Nat.lt_succ_self _) e)))
  .have hp:p∈(X.pn++pins)++[]:=hp;rw [append_nil] at hp; exact hp
 have st4:tn 0 h4:=T.keep _ _ _ st3 λb hb o e=>hk4 b o e;have loop:∀ s5:Shared,(∃ i H',Inv Y [] (FT ls.length fr σ) H' s5/\tn i s5.heap/\(∀ b∈fp,H' b=none) /\ ∃ m ys,W i m H' ys)->codeAny (model X.prog X.w) X.A (.compLoop (.ListComp elt [⟨tg,iter,ifs,0⟩] sc pos) 0 (.ref it) (.ref acc) (compEnvC sc dl C X.env)) (compPost (model X.prog X.w) X.A X.xe use Qv (.ref acc) C) s5:=by
  rintro s5 ⟨i,H',I5,st5,fr5,m,ys,w5⟩;refine oA (λn s'=>∃ i H' ys,Inv Y [] (FT ls.length fr σ) H' s'/\tn i s'.heap/\(∀ b∈fp,H' b=none)/\W i n H' ys) ?_ m ⟨i,H',ys,I5,st5,fr5,w5⟩;rintro n s6 ⟨i,H6,ys,I6,st6,fr6,w6⟩;obtain ⟨ha6,alt⟩:=turn i n H6 ys w6;rcases alt with ⟨stop,qn⟩ | ⟨go,step⟩
  .have q:=T.done Y pY wY kY cY i [] s6 _ H6 (λ_ _=>False) I6 (US fr6) st6 stop;rw [AY] at q;refine eS q λr s7 aJY=>?_;obtain ⟨hr,I7⟩:=aJY;subst hr;have fr7:H6 C=none:=by have:=I7.free;rw [eY] at this;exact this
   refine fin acc C s7 H6 ?_ ?_ (I3.FG (Nat.le_of_eq hC) fr7) qn
   .rw [<- hX] at I7;exact UR I3 I7 (λb hb=>f3 b hb) hC.symm (.refl ..)
   .obtain ⟨m,hm,_⟩:=I7.loc;rw [eY] at hm;exact ⟨m,hm⟩
  .have q:=T.item Y pY wY kY cY i [] s6 _ H6 (λ_ _=>False) I6 (US fr6) st6 go;rw [AY] at q;refine eS q λr s7 aJZ=>?_;obtain ⟨u,hr,h7⟩:=aJZ;subst hr;refine eS h7 λ_ s8 aJ0=>?_;obtain ⟨x,H8,I8,r8,y8,st8,fr8⟩:=aJ0;have I8':=I8.pinned (US fr8) (T.obj _ _ st8);have hgY:=hg dl C (X.pn++pins) fp s3 (upd H2 acc (.lst []));have hfY:=hf dl C (X.pn++pins) fp s3 (upd H2 acc (.lst []));have heY:=he dl C (X.pn++pins) fp s3 (upd H2 acc (.lst []));rw [hX] at hgY hfY heY;have q8:=hgY _ s8 _ H8 x u _ I8' r8 (step x H8 y8);rw [pY,wY,AY,eY,xY] at q8;refine eS q8 λ_ s9 aJ2=>?_;obtain ⟨σ9,H9,I9,hσ9,q9⟩:=aJ2;have q10:=hfY _ s9 σ9 H9 _ I9 q9;rw [pY,wY,AY,eY,xY] at q10;refine eS q10 λok s10 aJ3=>?_;obtain ⟨H10,I10,q10⟩:=aJ3;have bl:∀ {H7:Hp} {s7:Shared},Inv Y ([]++x8 fp s8.heap) σ9 H7 s7->(∃ m',m'<n /\ ∃ ys',W (i+1) m' H7 ys') -> ∃ m,m<n /\ ∃ i H' ys,Inv Y [] (FT ls.length fr σ) H' s7/\tn i s7.heap/\(∀ b∈fp,H' b=none)/\W i m H' ys:=λ{H7 s7} I7 ⟨m',hm,ys',w7⟩=>by
    refine ⟨m',hm,i+1,H7,ys',?_,T.keep _ _ _ st8 λb hb o e=>(I7.pin (b,o) (mem_append_right _ (mem_append_right _ (mJ hb e)))).1,λb hb=>?_,w7⟩
    .refine I7.rT.weak ?_ λk v e=>?_
     .rw [I7.len,<- I6.len]
     .by_cases hk:k<ls.length
      .unfold FT at e;rw [getElem?_append_left (by simpa using hk),getElem?_replicate,if_pos hk] at e;cases e
      .have e2:(σ9.drop ls.length)[k - ls.length]? = some (some v):=by rw [hσ9];unfold FT at e;rw [getElem?_append_right (by simpa using hk),length_replicate] at e;exact e
       rw [List.getElem?_drop] at e2;rw [show ls.length+(k - ls.length)=k by omega] at e2;exact e2
    .obtain ⟨o,e,d⟩:=T.obj _ _ st8 b hb;exact (I7.pin (b,o) (mem_append_right _ (mem_append_right _ (mJ hb e)))).2.1
   cases ok with
   | false =>
    rw [if_neg Bool.false_ne_true] at q10 ⊢;obtain ⟨m',hm,w'⟩:=q10;exact bl I10 ⟨m',hm,ys,w'⟩
   | true =>
    rw [if_pos rfl] at q10 ⊢;have q11:=heY _ s10 σ9 H10 _ I10 q10;rw [pY,wY,AY,eY,xY] at q11;refine eS q11 λyv s11 aJ4=>?_;obtain ⟨y,H11,I11,r11,aCL,aJ5,m',hm,w'⟩:=aJ4;have q12:=(A8 (X:=Y)) _ s11 σ9 H11 (.ref acc) [y] (.ref acc) [yv] (λ_ H'=>H' = upd H11 acc (.lst (ys++[y]))) I11 rfl (.cons r11 .nil) ⟨acc,ys,y,rfl,rfl,aCL,aJ5,rfl⟩;rw [pY,wY,AY,xY] at q12;refine eS q12 λ_ s12 aJ6=>?_;obtain ⟨_,H12,I12,_,e12⟩:=aJ6;subst e12;exact bl I12 ⟨m',hm,_,w'⟩
 have L0:=loop _ ⟨0,_,I4,st4,λb hb=>(f3 b hb).1,m0,[],w0⟩;refine codeAny_compStart_list L0 (T.self _ 0 _ _ _ st4 L0)
theorem ZC{ls fs:List Str}{fr:List Nat}{sc:Scope}{tg iter elt:Expr}{ifs:List Expr}{pos:Pos}{wi:TI}{g:TG}{tf:TFk}{te:TE}
  (hc:X.calm=true) (B:FU X ls fs fr sc) (hi:PI X tg iter wi) (hg:∀ cl C pn ex s H,PG (blk X (ls++fs) sc cl C pn ex s H) tg g) (hf:∀ cl C pn ex s H,PIf (blk X (ls++fs) sc cl C pn ex s H) ifs tf) (he:∀ cl C pn ex s H,PE (blk X (ls++fs) sc cl C pn ex s H) elt te)
  (hs:∀ x,foldedSetIterable iter X.env x=pure x:=by intro _; rfl):PE X (.ListComp elt [⟨tg,iter,ifs,0⟩] sc pos) (LY ls.length fr wi g tf te):=by
 intro pins s σ H Q I h;rw [eval_ListComp];refine FW (use:=none) hc B hi hg hf he hs I h λacc C s' H' I' hm fp q=>?_;obtain ⟨m,hm⟩:=hm;obtain ⟨f0,f1,_,f3,f4,f5⟩:=fp;exact ⟨m,hm,λh' hsb=>⟨.ref acc,H',I'.turned (t':=s'.toks) (λb o hb e=>(hsb.2 b hb).trans e) f0 f1 f3 f4 f5,rfl,q⟩⟩
theorem yH{i:Nat}{x:Str}{ls fs:List Str}{fr:List Nat}{sc:Scope}{tg iter elt:Expr}{ifs:List Expr}{pos spos pos':Pos}{wi:TI}{g:TG}{tf:TFk}{te:TE}(hN:X.N.Nodup)(hx0:X.N[i]? = some x)(hx:X.env.scope.names.lookup x=some .local)
  (hc:X.calm=true) (B:FU X ls fs fr sc) (hi:PI X tg iter wi) (hg:∀ cl C pn ex s H,PG (blk X (ls++fs) sc cl C pn ex s H) tg g) (hf:∀ cl C pn ex s H,PIf (blk X (ls++fs) sc cl C pn ex s H) ifs tf) (he:∀ cl C pn ex s H,PE (blk X (ls++fs) sc cl C pn ex s H) elt te)
  (hsw:swapsWith (.ListComp elt [⟨tg,iter,ifs,0⟩] sc pos) (some (.Name x pos')) spos.line X.env=pure true)
  (hs:∀ x,foldedSetIterable iter X.env x=pure x:=by intro _; rfl):PS X (.Assign [.Name x pos'] (.ListComp elt [⟨tg,iter,ifs,0⟩] sc pos) spos) (aBT (LY ls.length fr wi g tf te) (SX i)):=by
 intro pins s σ H D I h;rw [exec_Assign_Name_used _ _ _ _ hsw]; refine wpAny_bind (wpAny_standAt (wpAny_bind ?_));show wpAny _ X.A (do let _ <- comprehension (.ListComp elt [⟨tg,iter,ifs,0⟩] sc pos) sc X.env _ (newList []) false (eval iter X.env) (some (assign (.Name x pos') X.env))) _ _ s;refine wpAny_bind (wpAny_mono (FW (use:=some (assign (.Name x pos') X.env)) (Qv:=λ_ s'=>SP X pins D .next s') hc B hi hg hf he hs I h λacc C s' H' I' hm fp q=>?_) (λ_ s' hq=>wpAny_pure (wpAny_pure hq)) λ_ _ e=>e);obtain ⟨m,hm⟩:=hm;obtain ⟨f0,f1,_,f3,f4,f5⟩:=fp;refine wpAny_assign_Name (A1 I' hN hx0 (.inl hx) (v:=.ref acc) rfl (λs'' I'' hsb=>?_) (.inr hx));obtain ⟨a,hsb,ha⟩:=hsb;have haC:a≠C:=by
  rcases ha with rfl | ha
  .exact Ne.symm f1
  .exact f4 x a ha
 exact ⟨m,hm.sameBut hsb (Ne.symm haC),λh' hs'=>⟨_,H',I''.turned (t':=s''.toks) (λb o hb e=>(hs'.2 b hb).trans e) f0 f1 f3 f4 f5,q⟩⟩
end
noncomputable def chk(outer:List (Str×NameKind))(sc:Scope)(N ls fs:List Str)(fr:List Nat):Bool :=
 (sc.kind == .function)&&decide (ls++fs).Nodup&&sc.names.all (λx=>decide (sc.names.lookup x.1=some x.2)) &&
 sc.names.all (λx=>decide (x.2=.free->(outer.lookup x.1=some .cell\/outer.lookup x.1=some .free)))&&decide (fr.length=fs.length) &&
 (fs.zip fr).all (λx=>decide (N[x.2]? = some x.1)&&sc.names.contains (x.1,NameKind.free)&&decide (sc.names.lookup x.1=some .free))
theorem mO{X:Cx}{ls fs:List Str}{fr:List Nat}{sc:Scope}(h:chk X.env.scope.names sc X.N ls fs fr=true):FU X ls fs fr sc:=by
 unfold chk at h;simp only [Bool.and_eq_true,all_eq_true,decide_eq_true_eq] at h;obtain ⟨⟨⟨⟨⟨h1,h2⟩,h3⟩,h5⟩,h6⟩,h7⟩:=h;refine ⟨eq_of_beq h1,h2,h3,h5,λk x e=>?_,h6⟩;have hk:k<fs.length:=(List.getElem?_eq_some_iff.mp e).1;have hm:(x,fr[k]'(by omega))∈fs.zip fr:=by
  have:(fs.zip fr)[k]? = some (x,fr[k]'(by omega)):=by rw [List.getElem?_zip_eq_some];exact ⟨e,by simp⟩
  exact mem_of_getElem? this
 obtain ⟨⟨a,b⟩,c⟩:=h7 _ hm;exact ⟨fr[k]'(by omega),by simp,a,by simpa using b,c⟩
noncomputable abbrev GE:=D->cJ->(cJ->Prop)->Prop
noncomputable def yI(K:PySem.W.Frag)(nl n:Nat)(g:GE):TG:=λv σ H Q=>∃ (S:Addr->Prop) (ρ:cJ) (d:D) (Q3:cJ->Prop),σ.length=n/\(∀ a,H a=none->S a)/\Sl K S H ρ σ/\Dn K S H d v/\g d ρ Q3 /\
 ∀ σ' ρ',Sl K S H ρ' σ'->σ'.drop nl=σ.drop nl->Q3 ρ'->Q σ' H
noncomputable def PG4(X:Cx)(nl:Nat)(tg:Expr)(g:GE):Prop:=PG X tg (yI X.K nl X.N.length g)
theorem Sl.set{K:PySem.W.Frag}{S:Addr->Prop}{H:Hp}{ρ:cJ}{σ:L2.St}{i:Nat}{d:D}{v:V}(h:Sl K S H ρ σ)(hi:i<σ.length)(q:Dn K S H d v):Sl K S H (ρ.set i (some d)) (σ.set i (some v)):=λj e he=>by
 rcases get_set he with ⟨hj,z,_⟩ | ⟨hj,z⟩
 .cases z;subst hj;exact ⟨v,getElem?_set_self hi,q⟩
 .obtain ⟨u,a,b⟩:=h j e z;exact ⟨u,by rw [getElem?_set_ne (Ne.symm hj)]; exact a,b⟩
noncomputable def hN(i:Nat):GE:=λd ρ Q=>Q (ρ.set i (some d))
noncomputable def h2(i j:Nat):GE:=λd ρ Q=>match d with
 | .tup [d1,d2]=>Q ((ρ.set i (some d1)).set j (some d2))
 | _=>False
theorem drop_set{α:Type}{l:List α}{i n:Nat}{x:α}(h:i<n):(l.set i x).drop n=l.drop n:=by rw [List.drop_set,if_pos h]
section
variable{X:Cx}
theorem aEd{nl i:Nat}{x:Str}{pos:Pos}(nd:X.N.Nodup)(hil:i<nl)(hi:X.N[i]? = some x:=by rfl)(hx:Loc X.env.scope x:=by first | exact .inl rfl | exact .inr rfl)(hfx:X.fn x=true\/X.env.scope.names.lookup x=some .local:=by first | exact .inr rfl | exact .inl rfl):PG4 X nl (.Name x pos) (hN i) :=
 N6 (oY nd hi hx hfx) λv σ H Q aJ7=>by obtain ⟨S,ρ,d,Q3,hl,fc,sl,dn,hg,k⟩:=aJ7; exact k _ _ (sl.set (by rw [hl]; exact jV hi) dn) (drop_set hil) hg
theorem aEe{nl i j:Nat}{x y:Str}{kk:Nat}{pos px py:Pos}(hc:X.calm=true)(nd:X.N.Nodup)(hil:i<nl)(hjl:j<nl)(hi:X.N[i]? = some x:=by rfl)(hj:X.N[j]? = some y:=by rfl)(hx:Loc X.env.scope x:=by first | exact .inl rfl | exact .inr rfl)(hfx:X.fn x=true\/X.env.scope.names.lookup x=some .local:=by first | exact .inr rfl | exact .inl rfl)(hy:Loc X.env.scope y:=by first | exact .inl rfl | exact .inr rfl)(hfy:X.fn y=true\/X.env.scope.names.lookup y=some .local:=by first | exact .inr rfl | exact .inl rfl)
  (hn:(assignEach [.Name x px,.Name y py] X.env).length=2:=by rfl) (hst:(assignEach [.Name x px,.Name y py] X.env).findIdx? (·.1)=none:=by rfl)
  (hs1:(assignEach [.Name x px,.Name y py] X.env).map (·.2)=assign (.Name x px) X.env::(assignEach [.Name y py] X.env).map (·.2):=by rfl) (hs2:(assignEach [.Name y py] X.env).map (·.2)=assign (.Name y py) X.env::(assignEach [] X.env).map (·.2):=by rfl) :
  PG4 X nl (.Tuple [.Name x px,.Name y py] kk pos) (h2 i j) :=
 N6 (SY (n:=2) hc (rS (oY nd hi hx hfx) (rS (oY nd hj hy hfy) LH hs2) hs1) hn hst) λv σ H Q aJ9=>by
  obtain ⟨S,ρ,d,Q3,hl,fc,sl,dn,hg,k⟩:=aJ9;unfold h2 at hg;split at hg
  .rename_i d1 d2;simp only [Dn] at dn;obtain ⟨a,xs,rfl,ha,da⟩:=dn;obtain ⟨v1,r1,rfl,h1,h2⟩:=da.bV;obtain ⟨v2,r2,rfl,h3,h4⟩:=h2.bV;simp only [aP] at h4;subst h4;refine ⟨a,_,rfl,(gR.of ha),rfl,v1,[v2],rfl,v2,[],rfl,rfl,?_⟩;exact k _ _ ((sl.set (by rw [hl]; exact jV hi) h1).set (by rw [length_set,hl]; exact jV hj) h3) (by rw [drop_set hjl,drop_set hil]) hg
  .exact hg.elim
noncomputable def N8(X:Cx)(ifs:List Expr)(t:WT):Prop:=PIf X ifs (liftT X.K t)
noncomputable def aEf:WT:=λ_ Q=>Q true
theorem aJa:N8 X [] aEf:=λpins s σ H Q I aJb=>by obtain ⟨S,ρ,Q3,fc,sl,ht,k⟩:=aJb; exact ZA pins s σ H Q I (k true H (Same.refl H) ht)
theorem aEg{c:Expr}{t:WT}(h:zE X c t):N8 X [c] t:=aCJ h
noncomputable def sA(g:GE)(tf:WT)(te:WE)(ρ:cJ):List D->List D->(D->Prop)->Prop
 | [],acc,Q=>Q (.lst acc)
 | d::r,acc,Q=>g d ρ λρ2=>tf ρ2 λb=>if b=true then te ρ2 λy=>acc.length<sizeLine/\sA g tf te ρ r (acc++[y]) Q else sA g tf te ρ r acc Q
noncomputable def benv(nl:Nat)(fr:List Nat)(ρ:cJ):cJ:=List.replicate nl none++fr.map λj=>(ρ[j]?).join
noncomputable def FY(nl:Nat)(fr:List Nat)(ti:WI)(g:GE)(tf:WT)(te:WE):WE:=λρ Q=>ti ρ λds=>sA g tf te (benv nl fr ρ) ds [] Q
theorem ZD{K:PySem.W.Frag}{S:Addr->Prop}{H:Hp}{ρ:cJ}{σ:L2.St}{nl:Nat}{fr:List Nat}(h:Sl K S H ρ σ):Sl K S H (benv nl fr ρ) (FT nl fr σ):=λi d e=>by
 unfold benv at e;unfold FT;by_cases hi:i<nl
 .rw [getElem?_append_left (by simpa using hi),getElem?_replicate,if_pos hi] at e;cases e
 .rw [getElem?_append_right (by simpa using hi),getElem?_map,length_replicate] at e ⊢
  cases q:fr[i - nl]? with
  | none=>rw [q] at e; cases e
  | some j =>
   rw [q] at e;have e1:(ρ[j]?).join=some d:=Option.some.inj e;have e2:ρ[j]? = some (some d):=by
    cases z:ρ[j]? with
    | none=>rw [z] at e1; cases e1
    | some o=>rw [z] at e1; rw [show o=some d from e1]
   obtain ⟨v,ev,dv⟩:=h j d e2;exact ⟨v,by show some ((σ[j]?).join)=_; rw [ev]; rfl,dv⟩
theorem tR{K:PySem.W.Frag}{nl n:Nat}{fr:List Nat}{ti:WI}{g:GE}{tf:WT}{te:WE}{σ:L2.St}{H:Hp}{Q:VK}(hn:nl+fr.length=n)(h:T8 K (FY nl fr ti g tf te) σ H Q):LY nl fr (aA0 K ti) (yI K nl n g) (liftT K tf) (lift K te) σ H Q:=by
 obtain ⟨S,ρ,Q3,fc,sl,ht,k⟩:=h;refine ⟨S,ρ,_,fc,sl,ht,λJ H1 ds G s1 hG wk q1=>?_⟩;intro acc hacc;have h0:H acc=none:=s1.free hacc;have fc1:=cH fc s1;have ok:∀ {H2:Hp},Same H1 H2->(∃ ys,H2 acc=some (.lst ys))->(∀ a,H2 a=none->S a/\a≠acc)/\Sl K (λa=>S a/\a≠acc) H2 (benv nl fr ρ) (FT nl fr σ) /\ ∀ g∈G,Dn K (λa=>S a/\a≠acc) H2 g.1 g.2:=λ{H2} s2 hy=>by
  refine ⟨λa e=>⟨cH fc1 s2 a e,λz=>?_⟩,?_,λg hg=>Dn.fits ((Fits.fresh hacc).trans (.same s2)) _ _ (hG g hg)⟩
  .subst z;obtain ⟨ys,hy⟩:=hy;rw [e] at hy; cases hy
  .exact ZD (Sl.fits ((Fits.fresh h0).trans (.same (s1.trans s2))) sl)
 refine ⟨λi m H2 ys=>m=ds.length - i/\i<=ds.length/\Same H1 H2/\H2 acc=some (.lst ys) /\ ∃ aD,aP K (λa=>S a/\a≠acc) H2 aD ys/\sA g tf te (benv nl fr ρ) (ds.drop i) aD Q3,
  ⟨_,rfl,Nat.zero_le _,aR hacc,aV,[],aP.nil,q1⟩,?_⟩
 rintro i m H2 ys ⟨rfl,hi,s2,hy,aD,dn,cw⟩;obtain ⟨fc2,sl2,gh2⟩:=ok s2 ⟨ys,hy⟩;refine ⟨hy,?_⟩;by_cases hlt:i<ds.length
 .refine .inr ?_;obtain ⟨g1,g2⟩:=wk.go _ H2 fc2 gh2 i ds[i] (by simp [hlt]);refine ⟨g1,λx H' y=>?_⟩;obtain ⟨s3,dx⟩:=g2 x H' y;rw [List.drop_eq_getElem_cons hlt,sA] at cw;refine ⟨λa=>S a/\a≠acc,benv nl fr ρ,ds[i],_,?_,cH fc2 s3,Sl.fits (.same s3) sl2,dx,cw,λσ' ρ' sl' hd q'=>?_⟩
  .unfold FT; rw [List.length_append,length_replicate,length_map]; exact hn
  .refine ⟨by rw [hd]; unfold FT; rw [List.drop_append_of_le_length (by simp),List.drop_replicate]; simp,λa=>S a/\a≠acc,ρ',_,cH fc2 s3,sl',q',λb H3 s4 q4=>?_⟩
   cases b with
   | false =>
    rw [if_neg Bool.false_ne_true] at q4 ⊢;exact ⟨_,by omega,rfl,hlt,(s2.trans s3).trans s4,(s3.trans s4) _ _ hy,aD,aP.fits (.same (s3.trans s4)) _ _ dn,q4⟩
   | true =>
    rw [if_pos rfl] at q4 ⊢;refine ⟨λa=>S a/\a≠acc,ρ',_,cH fc2 (s3.trans s4),Sl.fits (.same s4) sl',q4,λv H4 d s5 d5 q5=>?_⟩;have hy4:H4 acc=some (.lst ys):=((s3.trans s4).trans s5) _ _ hy;have F:Fits K (λa=>S a/\a≠acc) (λa=>S a/\a≠acc) H4 (upd H4 acc (.lst (ys++[v]))):=.upd (.inl ⟨_,hy4⟩) λz=>z.2 rfl;refine ⟨hy4,by rw [<- dn.len]; exact q5.1,_,by omega,rfl,hlt,λb u hb=>?_,aV,aD++[d],aP.fits F _ _ ((aP.fits (.same ((s3.trans s4).trans s5)) _ _ dn).append (aP.one d5)),q5.2⟩;rw [bA (bO hb hacc)];exact (((s2.trans s3).trans s4).trans s5) _ _ hb
 .have e:i=ds.length:=by omega
  subst e;rw [List.drop_length,sA] at cw;exact .inl ⟨wk.stop _ H2 gh2 _ rfl,k acc ys H2 aD h0 hy (s1.trans s2) dn cw⟩
theorem aEh{ls fs:List Str}{fr:List Nat}{sc:Scope}{tg iter elt:Expr}{ifs:List Expr}{pos:Pos}{ti:WI}{g:GE}{tf:WT}{te:WE}(hc:X.calm=true)(hi:UN X tg iter ti)
  (hg:∀ cl C pn ex s H,(blk X (ls++fs) sc cl C pn ex s H).N.Nodup->PG4 (blk X (ls++fs) sc cl C pn ex s H) ls.length tg g) (hf:∀ cl C pn ex s H,N8 (blk X (ls++fs) sc cl C pn ex s H) ifs tf) (he:∀ cl C pn ex s H,dF (blk X (ls++fs) sc cl C pn ex s H) elt te)
  (B:chk X.env.scope.names sc X.N ls fs fr=true:=by rfl) (hs:∀ x,foldedSetIterable iter X.env x=pure x:=by intro _; rfl):IT X (.ListComp elt [⟨tg,iter,ifs,0⟩] sc pos) (FY ls.length fr ti g tf te) :=
 imp (ZC (g:=yI X.K ls.length (ls++fs).length g) (tf:=liftT X.K tf) (te:=lift X.K te) hc (mO B) hi (λcl C pn ex s H=>hg cl C pn ex s H (mO B).nd) hf he hs) λσ H Q h=>tR (n:=(ls++fs).length) (by rw [List.length_append,(mO B).DN]) h
theorem N9{i:Nat}{x:Str}{ls fs:List Str}{fr:List Nat}{sc:Scope}{tg iter elt:Expr}{ifs:List Expr}{pos spos pos':Pos}{ti:WI}{g:GE}{tf:WT}{te:WE}(nd:X.N.Nodup)(hc:X.calm=true)(hi:UN X tg iter ti)
  (hg:∀ cl C pn ex s H,(blk X (ls++fs) sc cl C pn ex s H).N.Nodup->PG4 (blk X (ls++fs) sc cl C pn ex s H) ls.length tg g) (hf:∀ cl C pn ex s H,N8 (blk X (ls++fs) sc cl C pn ex s H) ifs tf) (he:∀ cl C pn ex s H,dF (blk X (ls++fs) sc cl C pn ex s H) elt te)
  (hx0:X.N[i]? = some x:=by rfl) (hx:X.env.scope.names.lookup x=some .local:=by rfl) (hsw:swapsWith (.ListComp elt [⟨tg,iter,ifs,0⟩] sc pos) (some (.Name x pos')) spos.line X.env=pure true:=by rfl)
  (B:chk X.env.scope.names sc X.N ls fs fr=true:=by rfl) (hs:∀ x,foldedSetIterable iter X.env x=pure x:=by intro _; rfl):DO X (.Assign [.Name x pos'] (.ListComp elt [⟨tg,iter,ifs,0⟩] sc pos) spos) (aBw i (FY ls.length fr ti g tf te)) :=
 lI (yH (g:=yI X.K ls.length (ls++fs).length g) (tf:=liftT X.K tf) (te:=lift X.K te) nd hx0 hx hc (mO B) hi (λcl C pn ex s H=>hg cl C pn ex s H (mO B).nd) hf he hsw hs) λBd σ H aJc=>by
 obtain ⟨H₀,S,w,ρ,G,E,hl,st,ht,ok⟩:=aJc;exact tR (n:=(ls++fs).length) (by rw [List.length_append,(mO B).DN]) ⟨_,kC ρ,_,st.QR,st.rd,ht,λp xs H' ds hp hp' s' d' q'=>ok.nx w _ H' _ (by rw [length_set]; exact hl) ((st.same s').mN (d:=.lst ds) (by rw [hl]; exact jV hx0) (by simp only [Dn]; exact ⟨p,xs,rfl,hp',st.QR p hp,aP.fits (.mono λ_ z=>z.1) _ _ d'⟩)) q'⟩
end
section
variable{X:Cx}
noncomputable def tyD:D->String
 | .non => "NoneType"
 | .bl _ => "bool"
 | .int _ => "int"
 | .str _ => "str"
 | .tup _ => "tuple"
 | .lst _ => "list"
 | .kZ _ => "list"
 | .kA _ _ => "dict"
 | .eD _ _ _ => "dict"
 | .exc _ _ => "NoneType"
inductive ED:String->Prop
 | t:ED "tuple"
 | b:ED "bool"
 | i:ED "int"
 | s:ED "str"
noncomputable def isT(T:String)(d:D):Bool:=tyD d == T||(T == "int" && tyD d == "bool")
noncomputable def aJd(K:PySem.W.Frag)(T:String):List V->Hp->VK->Prop:=λxs H Q=>∃ x t b,xs=[x,.ty T]/\(rV K H x t\/(t=.type "tuple" /\ ∃ a ys,x=.ref a/\gR K H a ys)\/(t=.type "list" /\ ∃ a ys,x=.ref a/\eO K H a ys))/\PySem.W.kitOne K t (.type T)=some b/\Q (.bl b) H
theorem UT{T:String}:fP X (.builtin "isinstance") (aJd X.K T):=by
 intro pins s σ H xs us Q I r h;obtain ⟨x,t,b,rfl,ty,e,q⟩:=h;obtain ⟨u,w',rfl,r1,r2⟩:=vals2 r;obtain rfl:w' = Value.type T:=r2;rcases ty with ty | ⟨rfl,a,ys,rfl,hq⟩ | ⟨rfl,a,ys,rfl,hq⟩
 .exact NR I r1 ty e λtk=>⟨.bl b,H,I.tok tk,rfl,q⟩
 .cases r1;obtain ⟨its,_,p,_⟩:=I.tuple hq;obtain ⟨o,h1,h2,_⟩:=p;exact PySem.W.kia_one PySem.W.kitx_tuple I.C6 ⟨o,h1,h2⟩ e (λz=>nomatch z) λtk=>⟨.bl b,H,I.tok tk,rfl,q⟩
 .cases r1;obtain ⟨its,_,p,_⟩:=I.list hq;obtain ⟨o,n,h1,h2,_⟩:=p;exact PySem.W.kia_one PySem.W.kitx_list I.C6 ⟨o,h1,h2⟩ e (λz=>nomatch z) λtk=>⟨.bl b,H,I.tok tk,rfl,q⟩
noncomputable def aA4:D->Prop
 | .exc _ _=>False
 | .eD _ _ _=>False
 | _=>True
noncomputable def aJe(T:String)(t:WE):WE:=λρ Q=>t ρ λd=>aA4 d/\Q (.bl (isT T d))
theorem aJf{K:PySem.W.Frag}{T:String}(h:ED T)(d:D):PySem.W.kitOne K (.type (tyD d)) (.type T)=some (isT T d):=by cases h<;>cases d<;>with_unfolding_all rfl
theorem aEj{K:PySem.W.Frag}{S:Addr->Prop}{H:Hp}{d:D}{v:V}(hne:aA4 d)(h:Dn K S H d v):∃ t,t=Value.type (tyD d)/\(rV K H v t\/(t=.type "tuple" /\ ∃ a ys,v=.ref a/\gR K H a ys)\/(t=.type "list" /\ ∃ a ys,v=.ref a/\eO K H a ys)):=by
 refine ⟨_,rfl,?_⟩;cases d<;>simp only [Dn] at h
 .subst h; exact .inl .non
 .subst h; exact .inl (.bl _)
 .subst h; exact .inl (.int _)
 .subst h; exact .inl (.str _)
 .obtain ⟨a,xs,rfl,hq,_⟩:=h; exact .inr (.inl ⟨rfl,a,xs,rfl,(gR.of hq)⟩)
 .obtain ⟨a,xs,rfl,hq,_⟩:=h; exact .inl (.lst hq)
 .obtain ⟨a,rfl,hq⟩:=h; exact .inr (.inr ⟨rfl,a,_,rfl,hq.sq⟩)
 .obtain ⟨a,xs,rfl,hq,_⟩:=h; exact .inl (.dK hq)
 .exact hne.elim
 .exact hne.elim
theorem aJg{T:String}{x:Str}{e:Expr}{t:WE}{p p2 pos:Pos}(hT:ED T)(hm:X.mg "isinstance" = none)(hmT:X.mg x=none)(hv:bootBuiltins x=some (.type T))(he:dF X e t)(hg:Gl X "isinstance" := by rfl)(hgT:Gl X x:=by rfl)(hn:x ≠ "__name__" := by decide)(hdb:(x == ("__debug__" : Str))=false:=by decide)
  (hs:starEach [e,.Name x p2] X.env=(false,eval e X.env)::starEach [.Name x p2] X.env:=by rfl) (hs2:starEach [.Name x p2] X.env=(false,eval (.Name x p2) X.env)::starEach [] X.env:=by rfl) (hpl:(backTo pos (starEach [.Name x p2] X.env)).any (·.1)=false:=by rfl) :
  dF X (.Call (.Name "isinstance" p) [e,.Name x p2] [] pos) (aJe T t) :=
 imp (n5 (UT (T:=T)) hg hm PyProof.Rows.boot_isinstance (iE he (iE (YD (v:=.ty T) hgT hmT hv rfl hn hdb) qJ hs2) hs) (by decide) (by decide) hs hpl) λσ H Q aJj=>by obtain ⟨S,ρ,Q3,fc,sl,ht,k⟩:=aJj;refine ⟨S,ρ,_,fc,sl,ht,λv H1 d s1 d1 q1=>?_⟩;obtain ⟨tt,e1,e2⟩:=aEj q1.1 d1;refine ⟨v,tt,isT T d,rfl,e2,?_,k _ H1 (.bl _) s1 (by simp only [Dn]) q1.2⟩;rw [e1]; exact aJf hT d
noncomputable def aA5:List D->Option (List Bool)
 | []=>some []
 | .bl b::r=>(aA5 r).map (b :: ·)
 | _::_=>none
theorem range_all(bs:List Bool):(List.range bs.length).all (λi=>bs.getD i true)=bs.all id:=by
 induction bs with
 | nil=>rfl
 | cons b bs ih=>rw [length_cons,List.range_succ_eq_map,all_cons,List.all_map,all_cons,<- ih]; rfl
theorem range_any(bs:List Bool):(List.range bs.length).any (λi=>bs.getD i true)=bs.any id:=by
 induction bs with
 | nil=>rfl
 | cons b bs ih=>rw [length_cons,List.range_succ_eq_map,any_cons,List.any_map,any_cons,<- ih]; rfl
noncomputable def blF(f:List Bool->Bool):F1
 | [.lst ds],Q=>(match aA5 ds with | some bs=>Q (.bl (f bs)) | none=>False)
 | _,_=>False
noncomputable def LZ:List V->Hp->VK->Prop:=λxs H Q=>∃ a ns,xs=[.ref a]/\H a=some (.lst (ns.map V.int))/\ns.length<64 /\ ∀ ns':List Int,ns'.Perm ns->ns'.Pairwise (· <= ·) -> ∀ p,H p=none->Q (.ref p) (upd H p (.lst (ns'.map V.int)))
theorem sC:fP X (.builtin "sorted") LZ:=by
 intro pins s σ H xs us Q I r h;obtain ⟨a,ns,rfl,ha,h64,q⟩:=h;obtain ⟨u,rfl,ru⟩:=vals1 r;cases ru;obtain ⟨its,rv,p,hz⟩:=I.list (eO.of ha);have hi:=intsAre_of rv;have hlen:its.length=ns.length:=by have:=rv.length; rw [length_map] at this; exact this.symm
 refine sorted_ints p.isList hi (by omega) λout ns' a1 a2 a3=>?_;have hfr:H (s.heap.objs.size+1)=none:=I.hok.fresh (Nat.le_succ _);obtain ⟨e1,hat⟩:=sortedAll_at s.heap its out;have hz2:ns'.length<=sizeLine:=by rw [a2.length_eq,sizeLine_eq]; omega
 have I1:Inv X pins σ (upd H (s.heap.objs.size+1) (.lst (ns'.map V.int))) { s with heap:=sortedAll s.heap its out } :=
  I.laid (t':=s.toks) (λb o e=>sortedAll_old e) (Nat.le_succ _) ⟨by rw [length_map]; exact hz2,out.toList,e1,oZ a1,by simpa [seqObj] using hat⟩
 exact ⟨.ref _,_,I1,rfl,q ns' a2 a3 _ hfr⟩
noncomputable def intsOf:List D->Option (List Int)
 | []=>some []
 | .int b::r=>(intsOf r).map (b :: ·)
 | _::_=>none
theorem dO:∀ bs:List Int,intsOf (bs.map D.int)=some bs
 | []=>rfl
 | b::bs=>by rw [map_cons,intsOf,dO bs]; rfl
theorem tS:∀ {ds:List D} {bs:List Int},intsOf ds=some bs->ds=bs.map D.int
 | [],bs,h=>by cases h; rfl
 | .int b::r,bs,h=>by
  rw [intsOf] at h
  cases q:intsOf r with
  | none=>rw [q] at h; cases h
  | some cs=>rw [q] at h; cases h; rw [map_cons,tS q]
 | .non::r,bs,h=>by cases h
 | .bl _::r,bs,h=>by cases h
 | .str _::r,bs,h=>by cases h
 | .tup _::r,bs,h=>by cases h
 | .lst _::r,bs,h=>by cases h
 | .kZ _::r,bs,h=>by cases h
 | .kA _ _::r,bs,h=>by cases h
 | .eD _ _ _::r,bs,h=>by cases h
noncomputable def UU:F1
 | [.lst ds],Q=>(match intsOf ds with | some ns=>ns.length<64 /\ ∀ ns':List Int,ns'.Perm ns->ns'.Pairwise (· <= ·)->Q (.lst (ns'.map D.int)) | none=>False)
 | _,_=>False
theorem ZE{K:PySem.W.Frag}:C3F K LZ UU:=by
 intro S H xs ds Q3 Q fc hd hf k
 match ds,hf with
 | [.lst es],hf =>
  obtain ⟨v,r,rfl,h1,h2⟩:=hd.bV;simp only [aP] at h2;subst h2;simp only [Dn] at h1;obtain ⟨a,ys,rfl,ha,sa,da⟩:=h1;have hf2:(match intsOf es with | some ns=>ns.length<64 /\ ∀ ns':List Int,ns'.Perm ns->ns'.Pairwise (· <= ·)->Q3 (.lst (ns'.map D.int)) | none=>False):=hf
  clear hf
  cases q:intsOf es with
  | none=>rw [q] at hf2; exact hf2.elim
  | some ns =>
   rw [q] at hf2;have e:=tS q;subst e;have e2:=aP.ints.mp da;subst e2;exact ⟨a,ns,rfl,ha,hf2.1,λns' h1 h2 p hp=>k p _ _ _ hp aV (aR hp) (aP.ints.mpr rfl) (hf2.2 ns' h1 h2)⟩
theorem ZF{p pos:Pos}{e:Expr}{t:WA}(hm:X.mg "sorted" = none)(ha:BB X [e] t)(hg:Gl X "sorted" := by rfl)
  (he:starEach [e] X.env=(false,eval e X.env)::starEach [] X.env:=by rfl):IT X (.Call (.Name "sorted" p) [e] [] pos) (UJ UU t):=LV sC ZE PyProof.Rows.boot_sorted hg hm ha (by decide) (by decide) he (by rfl)
end
section
variable{i j:Int}{a b:List D}{Q:D->Prop}
end
section
variable{X:Cx}
theorem OA{a:Expr}{ta:TA}{p pos:Pos}(hg:Gl X "range")(hm:X.mg "range" = none)(ha:PA X [a] ta)(hs:starEach [a] X.env=[(false,eval a X.env)]:=by rfl) :
  PE X (.Call (.Name "range" p) [a] [] pos) (λσ H Q=>ta σ H λvs H1=>∃ j:Int,vs=[.int j] /\ ∀ p,H1 p=none->Q (.ref p) (upd H1 p (.rng 0 j))):=by
 intro pins s σ H Q I h;refine Call_ (qH I hg hm PyProof.Rows.boot_range (PyProof.Rows.callWith_type1 (eS (ha pos pins s σ H _ I h) λus s1 ⟨vs,H1,I1,r1,q1⟩=>?_) hs rfl));obtain ⟨j,e,q⟩:=q1;subst e;obtain ⟨u,rfl,ru⟩:=vals1 r1;obtain ⟨t,rfl⟩:=ru;refine call_range_1 ?_;exact ⟨.ref s1.heap.objs.size,_,I1.laid (o:=.rng 0 j) (λb o e=>Heap.get?_push_of_some _ e) (Nat.le_refl _) ⟨_,_,_,Heap.get?_push_size _ rfl⟩,rfl,q _ (I1.hok.fresh (Nat.le_refl _))⟩
theorem UW{lo:Int}{n:Nat}{acc:Array Value}(h:ItemsOf (λi v=>∃ t,v=.int (lo+(i:Nat)*1) t) acc n):Vals ((vF lo n).map V.int) acc.toList:=by
 obtain ⟨hz,hv⟩:=h;have key:∀ (l:List Value) (k:Nat) (m:Nat),l.length=m->(∀ (j:Nat) (v:Value),l[j]? = some v -> ∃ t,v=Value.int (lo+((k+j:Nat):Int)) t)->Vals (((List.range' k m).map λi:Nat=>lo+(i:Int)).map V.int) l:=by
  intro l
  induction l with
  | nil=>intro k m hm _; subst hm; exact .nil
  | cons v l ih =>
   intro k m hm hh;subst hm;rw [length_cons,List.range'_succ,map_cons,map_cons];refine .cons ?_ (ih (k+1) l.length rfl λj w e=>?_)
   .obtain ⟨t,e⟩:=hh 0 v (by simp);exact ⟨t,by simpa using e⟩
   .obtain ⟨t,e2⟩:=hh (j+1) w (by simpa using e);exact ⟨t,by rw [e2]; congr 1; congr 1; congr 1; omega⟩
 have:=key acc.toList 0 n (by simpa using hz) λj v e=>by obtain ⟨t,e2⟩:=hv j v (by simpa using e);exact ⟨t,by rw [e2]; simp⟩
 unfold vF;rw [List.range_eq_range'];exact this
theorem zU(hc:X.calm=true):fP X (.type "list") (λxs H Q=>∃ p j,xs=[.ref p]/\H p=some (.rng 0 j) /\ -(2 ^ 62)<=j/\j<=16777216 /\ ∀ l,H l=none->Q (.ref l) (upd H l (.lst ((vF 0 j.toNat).map V.int)))):=by
 intro pins s σ H xs us Q I r h;obtain ⟨p,j,rfl,hp,h0,h1,q⟩:=h;obtain ⟨u,rfl,ru⟩:=vals1 r;cases ru;obtain ⟨t,u,v,e⟩:=I.hok p _ hp;have hsz:Builtin.Range.rangeSize 0 j 1=(j.toNat:Int):=by rw [rangeSize_one]; split<;>omega
 refine call_list_range (a:=0) (b:=j) (c:=1) (n:=j.toNat) (I.ok.hd hc) e (small_one (by omega) (by omega) (by omega) (by omega)) hsz (by omega) λh' tk acc' c' kp hn hit=>?_;have hfr:H s.heap.objs.size=none:=I.hok.fresh (Nat.le_refl _);have hv:Vals ((vF 0 j.toNat).map V.int) acc'.toList:=UW hit;refine ⟨.ref s.heap.objs.size,_,I.laid (o:=.lst ((vF 0 j.toNat).map V.int)) kp (Nat.le_refl _) ⟨?_,acc'.toList,c',hv,by simpa using hn⟩,rfl,q _ hfr⟩;rw [length_map,uO,sizeLine_eq];omega
noncomputable def aCM(t:WA):WE:=λρ Q=>t ρ λds=>match ds with
 | [.int j]=>(-(2 ^ 62)<=j/\j<=16777216)/\Q (.lst ((vF 0 j.toNat).map D.int))
 | _=>False
theorem IZ{a:Expr}{t:WA}{p pos p2 pos2:Pos}(hc:X.calm=true)(hm:X.mg "list" = none)(hmr:X.mg "range" = none)(ha:BB X [a] t)(hg:Gl X "list" := by rfl)(hgr:Gl X "range" := by rfl)(hs:starEach [a] X.env=[(false,eval a X.env)]:=by rfl)
  (he:starEach [.Call (.Name "range" p2) [a] [] pos2] X.env=(false,eval (.Call (.Name "range" p2) [a] [] pos2) X.env)::starEach [] X.env:=by rfl) :
  IT X (.Call (.Name "list" p) [.Call (.Name "range" p2) [a] [] pos2] [] pos) (aCM t) :=
 imp (tN (zU hc) hg hm PyProof.Rows.boot_list (iE (OA hgr hmr ha hs) qJ he) (by decide) (by decide) he (by rfl)) λσ H Q aJk=>by
  obtain ⟨S,ρ,Q3,fc,sl,ht,k⟩:=aJk;refine ⟨S,ρ,_,fc,sl,ht,λvs H1 ds s1 d1 q1=>?_⟩;split at q1
  .rename_i j;obtain ⟨v,r,rfl,h1,h2⟩:=d1.bV;simp only [aP] at h2;subst h2;simp only [Dn] at h1;subst h1;refine ⟨j,rfl,λp hp=>⟨p,j,rfl,aV,q1.1.1,q1.1.2,λl hl=>?_⟩⟩;have hl1:H1 l=none:=(aR hp).free hl;exact k l _ _ _ (s1.free hl1) aV ((s1.trans (aR hp)).trans (aR hl)) (aP.ints.mpr rfl) q1.2
  .exact q1.elim
noncomputable def kJ(ks:List Key)(ds:List D)(k:Key):Option D:=((ks.zip ds).find? λkv=>decide (kv.1=k)).map (·.2)
theorem yJ{K:PySem.W.Frag}{S:Addr->Prop}{H:Hp}{k:Key}:∀ {ks:List Key} {ds:List D} {xs:List V},ks.length=xs.length->aP K S H ds xs ->
  (∀ d,kJ ks ds k=some d -> ∃ v,gE (ks.zip xs) k=some v/\Dn K S H d v)/\(kJ ks ds k=none->gE (ks.zip xs) k=none)
 | [],ds,xs,_,_=>by
  refine ⟨λd e=>?_,λ_=>?_⟩
  .simp [kJ] at e
  .simp [gE]
 | q::ks,ds,xs,hl,dn=>by
  cases ds with
  | nil=>simp only [aP] at dn; subst dn; simp at hl
  | cons d0 ds =>
   obtain ⟨v,r,rfl,h1,h2⟩:=dn.bV;have ih:=yJ (k:=k) (ks:=ks) (ds:=ds) (xs:=r) (by simpa using hl) h2;by_cases e:q=k
   .refine ⟨λd ed=>?_,λed=>?_⟩
    .simp only [kJ,List.zip_cons_cons,find?_cons,e,decide_true,Option.map_some] at ed;cases ed;exact ⟨v,by simp [gE,e],h1⟩
    .simp [kJ,e] at ed
   .refine ⟨λd ed=>?_,λed=>?_⟩
    .have ed':kJ ks ds k=some d:=by simpa [kJ,e] using ed
     obtain ⟨u,eu,du⟩:=ih.1 d ed';exact ⟨u,by simpa [gE,e] using eu,du⟩
    .have ed':kJ ks ds k=none:=by simpa [kJ,e] using ed
     simpa [gE,e] using ih.2 ed'
theorem UX{i:Nat}{x:Str}{pos pos' p:Pos}(hN:X.N.Nodup)(hi:X.N[i]? = some x:=by rfl)(hx:Loc X.env.scope x:=by first | exact .inl rfl | exact .inr rfl)(hs:swapsWith (.Dict [] [] p) (some (.Name x pos')) pos.line X.env=pure false:=by rfl)(hf:X.fn x=true\/X.env.scope.names.lookup x=some .local:=by first | exact .inl rfl | exact .inr rfl) :
  DO X (.Assign [.Name x pos'] (.Dict [] [] p) pos) (λE ρ=>E.nx (ρ.set i (.ow (.kA [] [])))):=lI (qI hN hi hx T6 hs hf) λB σ H ⟨H₀,S,w,ρ,G,E,hl,st,ht,ok⟩=>λp hp =>
 ok.nx _ _ _ _ (by rw [length_set]; exact hl) (st.IS (d:=.kA [] []) (by rw [hl]; exact jV hi) (aR hp) hp ⟨[],aV,rfl,aP.nil⟩) ht
noncomputable def FZ:D->Option Key
 | .int i=>some (.inl i)
 | .str x=>some (.inr x)
 | _=>none
theorem UY{K:PySem.W.Frag}{S:Addr->Prop}{H:Hp}{d:D}{v:V}{k:Key}(h:Dn K S H d v)(e:FZ d=some k):v=kV k:=by cases d<;>simp only [FZ] at e<;>cases e<;>simp only [Dn] at h<;>exact h
noncomputable def aCN:F2:=λx y Q=>match x,FZ y with
 | .kA ks ds,some k=>(match kJ ks ds k with | some d=>Q d | none=>False)
 | _,_=>False
theorem aJl{o i:Expr}{pos:Pos}{to ti:WE}(hu:X.A.units+1<cLine)(ho:dF X o to)(hi:dF X i ti)(hs:IQ i:=by intro _ _; rfl):dF X (.Subscript o i pos) (hJ aCN to ti):=imp (YW hu ho hi hs) λσ H Q aJm=>by
 obtain ⟨S,ρ,Q3,fc,sl,ht,k⟩:=aJm;refine ⟨S,ρ,_,fc,sl,ht,λv H1 d s1 d1 q1=>?_⟩;refine ⟨S,ρ,_,cH fc s1,Sl.fits (.same s1) sl,q1,λu H2 d2 s2 LX q2=>?_⟩;unfold aCN at q2;split at q2
 .rename_i ks ds kk ek;have d1':=Dn.fits (.same s2) _ _ d1;simp only [Dn] at d1';obtain ⟨a,xs,rfl,ha,sa,hl,da⟩:=d1';split at q2
  .rename_i d3 e3;obtain ⟨v3,ev,dv⟩:=(yJ hl da).1 d3 e3;have eu:=UY LX ek;subst eu;refine ⟨a,v3,rfl,?_,k v3 H2 d3 (s1.trans s2) dv q2⟩;have g:=FO.k (k:=kk) ha;rw [ev] at g;exact g
  .exact q2.elim
 .exact q2.elim
noncomputable def aEk(i:Nat)(t:WX)(tk:WE):WS:=λE ρ=>t ρ λρ' d=>(match ρ'[i]? with | some (.ow (.kA _ _))=>True | _=>False)/\tk (bU ρ') λkd=>match ρ'[i]?,FZ kd with
 | some (.ow (.kA ks ds)),some k=>(kJ ks ds k=none/\ds.length<sizeLine)/\E.nx (ρ'.set i (.ow (.kA (ks++[k]) (ds++[d]))))
 | _,_=>False
theorem aEm{i:Nat}{x:Str}{e k:Expr}{t:WX}{tk:WE}{pos pos' p:Pos}(hu:X.A.units+1<cLine)(he:FR X e t)(hk:dF X k tk)
  (hN:X.N[i]? = some x:=by rfl) (hv:AZ X.env.scope x:=by first | exact Or.inl rfl | exact Or.inr (Or.inl rfl) | exact Or.inr (Or.inr rfl)) (hd:(x == ("__debug__" : Str))=false:=by decide) (hcd:(x == ("__classdict__" : Str))=false:=by decide)
  (hs:swapsWith e (some (.Subscript (.Name x p) k pos')) pos.line X.env=pure false:=by rfl) :
  DO X (.Assign [.Subscript (.Name x p) k pos'] e pos) (aEk i t tk):=lI (YX hu (nZ hN hv hd hcd) hk he hs) λB σ H aJn=>by
 obtain ⟨H₀,S,w,ρ,G,E,hl,st,ht,ok⟩:=aJn;refine ⟨H₀,S,w,ρ,G,_,hl,st,ht,λw' v H' ρ' d st' d' q'=>?_⟩;obtain ⟨q0,q'⟩:=q';split at q0
 .rename_i ks0 ds0 e0;obtain ⟨a0,_,_⟩:=st'.own i _ e0;refine ⟨_,a0,S,bU ρ',_,st'.QQ,st'.all,q',λkv H2 dk s2 dk2 q2=>?_⟩;split at q2
  .rename_i ks ds kk e1 ek;have st2:=st'.same s2;obtain ⟨a,b,c⟩:=st2.own i _ e1;obtain ⟨xs,hp,hlen,dn⟩:=c;have eu:=UY dk2 ek;subst eu;have hno:=(yJ (k:=kk) hlen dn).2 q2.1.1;have nS:¬ SO S w' ρ' (w' i):=λ⟨_,z⟩=>z i _ e1 rfl;have hz:(ks.zip xs).length<sizeLine:=by rw [List.length_zip,hlen,Nat.min_self,<- dn.len]; exact q2.1.2
   have aJo:putK (ks.zip xs) kk v=(ks++[kk]).zip (xs++[v]):=by rw [TY v hno,List.zip_append hlen]; rfl
   have F:Fits X.K (SO S w' ρ') (SO S w' ρ') H2 (upd H2 (w' i) (.dK (putK (ks.zip xs) kk v))):=.upd (.inr (.inl ⟨_,hp⟩)) nS;refine ⟨w' i,_,rfl,IP.k hp hz,ok.nx w' σ _ _ hl (st2.write (d':=.kA (ks++[kk]) (ds++[d])) e1 ⟨xs++[v],?_,by simp [hlen],aP.fits F _ _ (dn.append (aP.one (Dn.fits (.same s2) _ _ d')))⟩) q2.2⟩;rw [aV,aJo]
  .exact q2.elim
 .exact q0.elim
noncomputable def aA6(i:Nat)(t:WE):WS:=λE ρ=>t (bU ρ) λd=>(match d with | .lst ds=>qZ ds=true | _=>False)/\E.nx (ρ.set i (.ro d))
theorem aEn{i:Nat}{x:Str}{e:Expr}{t:WE}{pos pos':Pos}(hN:X.N.Nodup)(he:IT X e t)(hi:X.N[i]? = some x:=by rfl)(hx:Loc X.env.scope x:=by first | exact .inl rfl | exact .inr rfl)(hs:swapsWith e (some (.Name x pos')) pos.line X.env=pure false:=by rfl)(hf:X.fn x=true\/X.env.scope.names.lookup x=some .local:=by first | exact .inl rfl | exact .inr rfl) :
  DO X (.Assign [.Name x pos'] e pos) (aA6 i t):=lI (qI hN hi hx he hs hf) λB σ H aJp=>by
 obtain ⟨H₀,S,w,ρ,G,E,hl,st,ht,ok⟩:=aJp;exact ⟨_,bU ρ,_,st.QQ,st.all,ht,λp xs H' ds hp hp' s' d' q'=>ok.nx w _ H' _ (by rw [length_set]; exact hl) ((st.same s').mN (d:=.lst ds) (by rw [hl]; exact jV hi) (by simp only [Dn]; exact ⟨p,xs,rfl,hp',st.QR p hp,aP.AB q'.1 d'⟩)) q'.2⟩
noncomputable def aCO(c:WT)(tb:WS):WS:=λE ρ=>∃ (Inv:aS->Prop) (μ:aS->Nat),Inv ρ /\ ∀ ρ',Inv ρ'->c (bU ρ') λb=>if b=true then tb { E with nx:=λρ2=>Inv ρ2/\μ ρ2<μ ρ',ct:=λρ2=>Inv ρ2/\μ ρ2<μ ρ',bk:=E.nx } ρ' else E.nx ρ'
theorem aCP{c:Expr}{body:List Stmt}{tc:WT}{tb:WS}{pos:Pos}(hp:PassesOwn (model X.prog X.w) X.A X.env X.xe)(hc:zE X c tc)(hb:vE X body tb):DO X (.While c body [] pos) (aCO tc tb):=lI (S3 hp hc hb) λB σ H aJq=>by
 obtain ⟨H₀,S,w,ρ,G,E,hl,st,⟨Iv,μ,h0,turn⟩,ok⟩:=aJq;refine ⟨λm σ H=>∃ w ρ,σ.length=X.N.length/\ST X.K H₀ S w σ H ρ G/\Iv ρ/\m=μ ρ,⟨_,w,ρ,hl,st,h0,rfl⟩,?_⟩;rintro m σ2 H2 ⟨w2,ρ2,hl2,st2,iv,rfl⟩;refine ⟨S,bU ρ2,_,st2.QQ,st2.all,turn ρ2 iv,λb H3 s3 q3=>?_⟩
 cases b with
 | false=>rw [if_neg Bool.false_ne_true] at q3 ⊢; exact ok.nx w2 σ2 H3 ρ2 hl2 (st2.same s3) q3
 | true =>
  rw [if_pos rfl] at q3 ⊢;refine ⟨λσ' H'=>∃ w ρ,σ'.length=X.N.length/\ST X.K H₀ S w σ' H' ρ G/\Iv ρ/\μ ρ<μ ρ2,λσ' H' ⟨w',ρ',hl',st',iv',hm⟩=>⟨_,hm,w',ρ',hl',st',iv',rfl⟩,?_⟩;exact ⟨H₀,S,w2,ρ2,G,_,hl2,st2.same s3,q3,⟨λw' σ' H' ρ' hl' st' q=>⟨w',ρ',hl',st',q.1,q.2⟩,λv H' d s' d' q=>ok.rt v H' d s' d' q,λw' σ' H' ρ' hl' st' q=>ok.nx w' σ' H' ρ' hl' st' q,λw' σ' H' ρ' hl' st' q=>⟨w',ρ',hl',st',q.1,q.2⟩,ok.ex⟩⟩
noncomputable def aCQ:List D->D->(List D->D->Prop)->Prop
 | ds,.lst es,Q=>ds.length+es.length<=sizeLine/\Q (ds++es) .non
 | _,_,_=>False
theorem aCR{K:PySem.W.Frag}:M3 K LQ aCQ:=by
 intro S H p xs ds y d Q3 Q hp dn dy hf k
 cases d with
 | lst es =>
  simp only [Dn] at dy;obtain ⟨b,zs,rfl,hb,sb,db⟩:=dy;exact ⟨p,b,xs,zs,rfl,rfl,hp,hb,by rw [<- dn.len,<- db.len]; exact hf.1,k _ _ _ _ (dn.append db) (by simp only [Dn]) hf.2⟩
 | _=>exact hf.elim
section
variable{i:Nat}{x:Str}{e:Expr}{p apos cpos:Pos}{t:WX}
theorem ZG(he:FR X e t)(hN:X.N[i]? = some x:=by rfl)(hv:AZ X.env.scope x:=by first | exact Or.inl rfl | exact Or.inr (Or.inl rfl) | exact Or.inr (Or.inr rfl))(hd:(x == ("__debug__" : Str))=false:=by decide)(hcd:(x == ("__classdict__" : Str))=false:=by decide)
  (hbase:attributeBase (.Name x p) "extend" X.env (eval (.Name x p) X.env)=eval (.Name x p) X.env:=by rfl)
  (hfew:((backTo cpos (starEach [e] X.env)).all (λx=>!x.1)&&(backToKw cpos (keywordEach [] X.env)).all (λx=>x.1.isSome)
   && decide ([e].length+([]:List Keyword).length+(if ([]:List Keyword).isEmpty then 0 else 1)<30))=true:=by rfl)
  (hline:(apos.endLine == cpos.line)=true:=by rfl) (hs:starEach [e] X.env=(false,eval e X.env)::starEach [] X.env:=by rfl) :
  FR X (.Call (.Attribute (.Name x p) "extend" apos) [e] [] cpos) (wM1 i aCQ t):=m1 PySem.F.slot_list_extend PySem.F.type_list_extend NV aCR he hN hv hd hcd hbase hfew hline hs
end
end
section
variable{X:Cx}{pins:List (Addr×Obj)}{σ:L2.St}{H:Hp}{s:Shared}{h':Heap}
theorem turnT{t':Nat}{ch:List Addr}{T:Addr}{xs:List V}{its:List Value}(I:Inv X pins σ H s)(k:∀ b o,b∉ch->s.heap.get? b=some o->h'.get? b=some o)(hf:∀ b∈ch,pH X pins H b)
  (hT:s.heap.objs.size<=T) (hv:Vals xs its) (hz:xs.length<=sizeLine) (ht:IsTup h' T its.toArray) (nd:FD h' T):Inv X pins σ (upd H T (.tup xs)) { s with heap:=h',toks:=t' }:=by
 have fr:H T=none:=I.hok.fresh hT;have nT:∀ {b:Addr} {o:Obj},s.heap.get? b=some o->b≠T:=λ{b} {o} e z=>Nat.lt_irrefl _ (Nat.lt_of_lt_of_le (Heap.lt_size e) (z▸hT));have live:∀ {b:Addr} {u:HO},H b=some u->b∉ch:=λ{b} {u} e z=>by rw [(hf _ z).1] at e; cases e
 refine I.call' (s':={ s with heap:=h',toks:=t' }) (ch:=ch) rfl ⟨λb o e _ _ hx=>k b o hx e,λb o e _ _ hx=>⟨o.slots,k b o hx e⟩,λb o e n _=>by rw [bA (nT e)]; exact n,λb o e hx=>⟨o,k b o hx e⟩,
  λb ys e=>by rw [bA (bO e fr)]; exact e,λb o u e=>by rw [bA (bO e fr)]; exact e,λb ps e=>by rw [bA (bO e fr),e]⟩ ?_ I.bare λb hb=>?_
 .intro b u e;by_cases hb:b=T
  .subst hb; rw [aV] at e; cases e; exact ⟨hz,its,hv,ht,nd⟩
  .rw [bA hb] at e;refine (I.hok b u e).stay (λc v hc q=>k c v ?_ q) (λc q=>by rw [bA (bO q fr)]; exact q) (λc ys q=>by rw [bA (bO q fr)]; exact q) λc o u q=>by rw [bA (bO q fr)]; exact q
   rcases hc with rfl | hc
   .exact live e
   .exact live hc
 .obtain ⟨_,f1,_,f3,f4,f5⟩:=hf b hb;exact ⟨f3,f1,f4,f5⟩
theorem GA{t':Nat}{ch:List Addr}(I:Inv X pins σ H s)(k:∀ b o,b∉ch->s.heap.get? b=some o->h'.get? b=some o)(hf:∀ b∈ch,pH X pins H b):Inv X pins σ H { s with heap:=h',toks:=t' }:=by
 have live:∀ {b:Addr} {u:HO},H b=some u->b∉ch:=λ{b} {u} e z=>by rw [(hf _ z).1] at e; cases e
 refine I.call' (s':={ s with heap:=h',toks:=t' }) (ch:=ch) rfl ⟨λb o e _ _ hx=>k b o hx e,λb o e _ _ hx=>⟨o.slots,k b o hx e⟩,λb o e n _=>n,λb o e hx=>⟨o,k b o hx e⟩,
  λb ys e=>e,λb o u e=>e,λb ps e=>e⟩ ?_ I.bare λb hb=>?_
 .intro b u e;refine (I.hok b u e).stay (λc v hc q=>k c v ?_ q) (λc q=>q) λc ys q=>q;rcases hc with rfl | hc
  .exact live e
  .exact live hc
 .obtain ⟨_,f1,_,f3,f4,f5⟩:=hf b hb;exact ⟨f3,f1,f4,f5⟩
end
noncomputable def Itp(go:Nat->Hp->Prop)(Y:Nat->Hp->List V->Prop)(stop:Nat->Hp->Prop):It:=⟨go,λi H x H'=>∃ T vs,x=.ref T/\H T=none/\H' = upd H T (.tup vs)/\Y i H vs,stop⟩
noncomputable def L1(P:Program)(w:World)(A:Around)(it:Addr)(wr:List Addr)(n:Nat)(Pt:Nat->Array Value->Prop)(St:Nat->Heap->Prop)(Mid:Nat->Addr->Heap->Prop):Prop :=
 ∀ i (s:Shared) (Q:Option Value->Shared->Prop) (E:Value->Shared->Prop),i<n->St i s.heap ->
  (∀ T vals h' tk,Pt i vals->s.heap.objs.size<=T->h'.IsTuple T vals->FD h' T->Mid i T h'->(∀ b o,b∉wr->s.heap.get? b=some o->h'.get? b=some o)->Q (some (.ref T)) { s with heap:=h',toks:=tk }) ->
  wpAny (model P w) A (pyNext (.ref it)) Q E s
theorem qK{P:Program}{w:World}{K:PySem.W.Frag}{es:List Expr}{kk:Nat}{tp:Pos}{go:Nat->Hp->Prop}{Y:Nat->Hp->List V->Prop}{stop:Nat->Hp->Prop}{fp:List Addr}{it:Addr}{tn:Nat->Heap->Prop}(mem:it∈fp)
  (obj:∀ i h,tn i h -> ∀ b∈fp,∃ o,h.get? b=some o /\ ∀ v,o.data≠.cell v) (keep:∀ i h h',tn i h->(∀ b∈fp,∀ o,h.get? b=some o->h'.get? b=some o)->tn i h')
  (wk:∀ (X:Cx),X.prog=P->X.w=w->X.K=K->X.calm=true -> ∀ (i:Nat) (pins:List (Addr×Obj)) (s:Shared) (σ:L2.St) (H:Hp),Inv X pins σ H s->tn i s.heap->go i H\/stop i H ->
   ∃ fp2 wr n Pt St Mid,(WalksT P w X.A it fp2 wr n Pt St Mid/\L1 P w X.A it wr n Pt St Mid)/\St i s.heap/\(∀ b∈wr,b∈fp)/\(∀ h,St (i+1) h->tn (i+1) h) /\
    (go i H->i<n /\ ∀ vals,Pt i vals -> ∃ vs,vs.length<=sizeLine/\Vals vs vals.toList/\Y i H vs)/\(stop i H->i=n))
  (self:∀ (A:Around) (i:Nat) (s:Shared) (Q:Value->Shared->Prop) (E:Value->Shared->Prop),tn i s.heap->Q (.ref it) s->wpAny (model P w) A (pyIter (.ref it)) Q E s) :
  Turn P w K (.Tuple es kk tp) (Itp go Y stop) fp it tn where
 mem:=mem
 obj:=obj
 keep:=keep
 self:=self
 item:=by intro X hP hw hK hc i pins s σ H E I hf st hg;obtain ⟨fp2,wr,n,Pt,St,Mid,⟨W,J2⟩,hs,sub,nx,ok,_⟩:=wk X hP hw hK hc i pins s σ H I st (.inl hg);obtain ⟨hi,ok⟩:=ok hg;refine J2 i s _ _ hi hs λT vals h1 tk hp hT ht nd hm k1=>⟨.ref T,rfl,W.go es kk tp i T _ _ _ hm λh2 s2 k2=>?_⟩;obtain ⟨vs,hz,hv,hy⟩:=ok vals hp;obtain ⟨o,eo,c,d⟩:=ht;have ht2:IsTup h2 T vals.toList.toArray:=⟨o,k2 T o (W.apart i T _ hm) eo,c,by simpa using d⟩;have I2:Inv X pins σ (upd H T (.tup vs)) { s with heap:=h2,toks:=tk }:=turnT (t':=tk) (ch:=wr) I (λb o hb e=>k2 b o hb (k1 b o hb e)) (λb hb=>hf b (sub b hb)) hT hv hz ht2 (nd.at eo (k2 T o (W.apart i T _ hm) eo));refine ⟨.ref T,upd H T (.tup vs),I2,rfl,⟨T,vs,rfl,I.hok.fresh hT,rfl,hy⟩,nx h2 s2,λb hb=>?_⟩;obtain ⟨ob,eb,_⟩:=obj _ _ st b hb;have nb:b≠T:=λz=>Nat.lt_irrefl _ (Nat.lt_of_lt_of_le (Heap.lt_size eb) (z▸hT));rw [bA nb];exact (hf b hb).1
 done:=by intro X hP hw hK hc i pins s σ H E I hf st hg;obtain ⟨fp2,wr,n,Pt,St,Mid,⟨W,_⟩,hs,sub,nx,_,ok⟩:=wk X hP hw hK hc i pins s σ H I st (.inr hg);obtain rfl:=ok hg;exact W.done s _ _ hs λh2 tk k2=>⟨rfl,GA (t':=tk) (ch:=wr) I k2 λb hb=>hf b (sub b hb)⟩
noncomputable def Iel(K:PySem.W.Frag)(l:Addr):It:=Itp (λi H=>∃ xs v,eO K H l xs/\xs[i]? = some v) (λi H vs=>∃ v,vs=[.int i,v] /\ ∀ xs,eO K H l xs->xs[i]? = some v) (λi H=>∃ xs,eO K H l xs/\xs.length=i)
noncomputable def Iet(K:PySem.W.Frag)(l:Addr):It:=Itp (λi H=>∃ xs v,gR K H l xs/\xs[i]? = some v) (λi H vs=>∃ v,vs=[.int i,v] /\ ∀ xs,gR K H l xs->xs[i]? = some v) (λi H=>∃ xs,gR K H l xs/\xs.length=i)
theorem yK:[V.int 0,V.int 0].length<=sizeLine:=by rw [sizeLine_eq]; decide
theorem GB{prog:Program}{w:World}{A:Around}(e it l:Addr)(hei:e≠it)(hle:l≠e)(hli:l≠it)(items:Array Value):L1 prog w A e [e,it] items.size (λi vals=>∃ t x,items[i]? = some x/\vals=#[.int i t,x])
  (λi h=>(∃ old,IsEnum h e it i old)/\h.IsListIter it l i/\h.IsList l items) (λi T h=>(∃ x,IsEnumOut h e it ((i:Int)+1) x T)/\h.IsListIter it l (i+1)/\h.IsList l items/\T≠e/\T≠it):=by
 intro i s Q E hi ⟨⟨old,a1⟩,a2,a3⟩ q;have ix:items[i]? = some items[i]:=Array.getElem?_eq_getElem hi;refine wpAny_pyNext_enum_item a1 a2 a3 ix hei λg b1 b2 b3 _ kp=>?_;have l1:e<s.heap.objs.size:=Heap.lt_size a1;have l2:it<s.heap.objs.size:=by obtain ⟨_,y,_⟩:=a2; exact Heap.lt_size y
 refine q s.heap.objs.size #[.int i s.toks,items[i]] g (s.toks+1) ⟨_,_,ix,rfl⟩ (Nat.le_refl _) ⟨_,b3,rfl,_,rfl⟩ (FD.is b3 rfl) ⟨⟨_,b1⟩,b2,a3.at λo y=>kp l o hle hli y,Nat.ne_of_gt l1,Nat.ne_of_gt l2⟩ λb o hb y=>?_;simp only [mem_cons,not_mem_nil,or_false,not_or] at hb;exact kp b o hb.1 hb.2 y
theorem GC{prog:Program}{w:World}{A:Around}{it:Addr}{fp:List Addr}{n:Nat}{P:Nat->Value->Prop}{St:Nat->Heap->Prop}(D:Draws prog w A.in1 it fp n P St)(e:Addr)(hei:e≠it)(hef:e∉fp) :
  L1 prog w A e [e,it] n (λi vals=>∃ t x,P i x/\vals=#[.int i t,x]) (λi h=>(∃ old,IsEnum h e it i old)/\St i h) (λi T h=>(∃ x,IsEnumOut h e it ((i:Int)+1) x T)/\St (i+1) h/\T≠e/\T≠it):=by
 intro i s Q E hi ⟨⟨old,a1⟩,a2⟩ q;refine wpAny_pyNext_enum_itemD D a1 a2 hi hei hef λx g tk px b1 b2 b3 _ kp=>?_;have l1:e<s.heap.objs.size:=Heap.lt_size a1;have l2:it<s.heap.objs.size:=by obtain ⟨_,y⟩:=D.live _ _ a2; exact Heap.lt_size y
 refine q s.heap.objs.size #[.int i tk,x] g (tk+1) ⟨_,_,px,rfl⟩ (Nat.le_refl _) ⟨_,b3,rfl,_,rfl⟩ (FD.is b3 rfl) ⟨⟨_,b1⟩,b2,Nat.ne_of_gt l1,Nat.ne_of_gt l2⟩ λb o hb y=>?_;simp only [mem_cons,not_mem_nil,or_false,not_or] at hb;exact kp b o hb.1 hb.2 y
theorem I0{prog:Program}{w:World}{A:Around}(z TI TO i1 i2 l1 l2:Addr)(D:ZipApart z TI TO i1 i2 l1 l2)(xs ys:Array Value) :
  L1 prog w A z [z,TO,i1,i2] (min xs.size ys.size) (λi vals=>∃ x y,xs[i]? = some x/\ys[i]? = some y/\vals=#[x,y])
   (λi h=>IsZip h z TI TO .none/\IsPair h TI (.ref i1) (.ref i2)/\(∃ a b,IsPair h TO a b)/\h.IsListIter i1 l1 i/\h.IsListIter i2 l2 i/\h.IsList l1 xs/\h.IsList l2 ys)
   (λi T h=>IsZip h z TI TO (rawInt T)/\IsPair h TI (.ref i1) (.ref i2)/\(∃ a b,IsPair h TO a b)/\h.IsListIter i1 l1 (i+1)/\h.IsListIter i2 l2 (i+1)/\h.IsList l1 xs/\h.IsList l2 ys/\T≠z/\T≠TO/\T≠i1/\T≠i2):=by
 intro i s Q E hi ⟨a1,a2,⟨x,y,a3⟩,a4,a5,a6,a7⟩ q;have n1:i<xs.size:=by omega
 have n2:i<ys.size:=by omega
 refine wpAny_pyNext_zip_item D a1 a2 a3 a4 a5 a6 a7 (Array.getElem?_eq_getElem n1) (Array.getElem?_eq_getElem n2) λg b1 b2 b3 b4 b5 _ kp=>?_;have fresh:∀ {c:Addr} {o:Obj},s.heap.get? c=some o->s.heap.objs.size≠c:=λe=>Nat.ne_of_gt (Heap.lt_size e);refine q s.heap.objs.size #[xs[i],ys[i]] g s.toks ⟨_,_,Array.getElem?_eq_getElem n1,Array.getElem?_eq_getElem n2,rfl⟩ (Nat.le_refl _) ⟨_,b5,rfl,_,rfl⟩ (FD.is b5 rfl)
  ⟨b1,kp _ _ D.TIz D.TITO D.TIi1 D.TIi2 a2,⟨_,_,b2⟩,b3,b4,a6.at λo e=>kp _ o D.l1z D.l1TO D.l1i1 D.l1i2 e,a7.at λo e=>kp _ o D.l2z D.l2TO D.l2i1 D.l2i2 e,fresh a1,fresh a3,(by obtain ⟨_,e,_⟩:=a4; exact fresh e),(by obtain ⟨_,e,_⟩:=a5; exact fresh e)⟩ λb o hb e=>?_
 simp only [mem_cons,not_mem_nil,or_false,not_or] at hb;exact kp b o hb.1 hb.2.1 hb.2.2.1 hb.2.2.2 e
theorem JA{P:Program}{w:World}{K:PySem.W.Frag}{es:List Expr}{kk:Nat}{tp:Pos}{e it l:Addr}(hei:e≠it)(hle:l≠e)(hli:l≠it) :
  Turn P w K (.Tuple es kk tp) (Iel K l) [e,it] e (λi h=>(∃ old,IsEnum h e it i old)/\h.IsListIter it l i):=by
 refine qK (by simp) (λi h st b hb=>?_) (λi h h2 st k=>?_) (λX hP hw hK hc i pins s σ H I st hg=>?_) (λA i s Q E st q=>?_)
 .obtain ⟨⟨old,a⟩,o,c,d1,d2⟩:=st;rcases List.mem_cons.mp hb with rfl | hq
  .exact ⟨_,a,λv z=>by cases z⟩
  .rw [List.mem_singleton.mp hq]; exact ⟨o,c,λv z=>by rw [d2] at z; cases z⟩
 .obtain ⟨⟨old,a⟩,b⟩:=st;exact ⟨⟨old,k e (by simp) _ a⟩,b.at λo q=>k it (by simp) o q⟩
 .subst hP hw hK;have hq:∃ xs,eO X.K H l xs:=by rcases hg with ⟨xs,_,a,_⟩ | ⟨xs,a,_⟩<;>exact ⟨xs,a⟩
  obtain ⟨xs,hq⟩:=hq;obtain ⟨its,rv,p,hz⟩:=I.list hq;have hl:=rv.length;refine ⟨_,_,_,_,_,_,⟨WalksT.enumerate (I.ok.hd hc) e it l hei hle hli its.toArray,GB e it l hei hle hli its.toArray⟩,⟨st.1,st.2,p.isList⟩,λb hb=>hb,λh q=>⟨q.1,q.2.1⟩,λg=>?_,λg=>?_⟩
  .obtain ⟨ys,v,hy,hv⟩:=g;obtain rfl:=I.fO hy hq;obtain ⟨u,hu,ru⟩:=rv.get hv;have hlt:i<ys.length:=(List.getElem?_eq_some_iff.mp hv).1;refine ⟨by rw [size_toArray,<- hl]; exact hlt,λvals q=>?_⟩;obtain ⟨t,x,hx,rfl⟩:=q;have ex:x=u:=by
    have:its[i]? = some x:=by simpa using hx
    rw [hu] at this; exact (Option.some.inj this).symm
   subst ex;exact ⟨[.int i,v],yK,.cons ⟨t,rfl⟩ (.cons ru .nil),v,rfl,λzs hzs=>by rw [I.fO hzs hq]; exact hv⟩
  .obtain ⟨ys,hy,e2⟩:=g;obtain rfl:=I.fO hy hq;rw [size_toArray,<- hl,e2]
 .obtain ⟨⟨old,a⟩,b⟩:=st;exact wpAny_pyIter_enum a q
noncomputable def Izl(K:PySem.W.Frag)(l m:Addr):It:=Itp (λi H=>∃ xs ys v u,eO K H l xs/\eO K H m ys/\xs[i]? = some v/\ys[i]? = some u) (λi H vs=>∃ v u,vs=[v,u]/\(∀ xs,eO K H l xs->xs[i]? = some v) /\ ∀ ys,eO K H m ys->ys[i]? = some u)
 (λi H=>∃ xs ys,eO K H l xs/\eO K H m ys/\min xs.length ys.length=i)
theorem UZ{P:Program}{w:World}{K:PySem.W.Frag}{es:List Expr}{kk:Nat}{tp:Pos}{z TI TO i1 i2 l m:Addr}(D:ZipApart z TI TO i1 i2 l m) :
  Turn P w K (.Tuple es kk tp) (Izl K l m) [z,TI,TO,i1,i2] z (λi h=>IsZip h z TI TO .none/\IsPair h TI (.ref i1) (.ref i2)/\(∃ a b,IsPair h TO a b)/\h.IsListIter i1 l i/\h.IsListIter i2 m i):=by
 refine qK (by simp) (λi h st b hb=>?_) (λi h h2 st k=>?_) (λX hP hw hK hc i pins s σ H I st hg=>?_) (λA i s Q E st q=>?_)
 .obtain ⟨a1,a2,⟨x,y,a3⟩,⟨o4,c4,_,d4⟩,o5,c5,_,d5⟩:=st;simp only [mem_cons,or_false,not_mem_nil] at hb;rcases hb with rfl | rfl | rfl | rfl | rfl
  .exact ⟨_,a1,λv z=>by cases z⟩
  .exact ⟨_,a2,λv z=>by cases z⟩
  .exact ⟨_,a3,λv z=>by cases z⟩
  .exact ⟨o4,c4,λv z=>by rw [d4] at z; cases z⟩
  .exact ⟨o5,c5,λv z=>by rw [d5] at z; cases z⟩
 .obtain ⟨a1,a2,⟨x,y,a3⟩,a4,a5⟩:=st;exact ⟨k z (by simp) _ a1,k TI (by simp) _ a2,⟨x,y,k TO (by simp) _ a3⟩,a4.at λo q=>k i1 (by simp) o q,a5.at λo q=>k i2 (by simp) o q⟩
 .subst hP hw hK;have hq:∃ xs ys,eO X.K H l xs/\eO X.K H m ys:=by rcases hg with ⟨xs,ys,_,_,a,b,_⟩ | ⟨xs,ys,a,b,_⟩<;>exact ⟨xs,ys,a,b⟩
  obtain ⟨xs,ys,hq,hq2⟩:=hq;obtain ⟨its,rv,p,hz⟩:=I.list hq;obtain ⟨its2,rv2,p2,hz2⟩:=I.list hq2;have hl:=rv.length;have hl2:=rv2.length;refine ⟨_,_,_,_,_,_,⟨WalksT.zip2 (I.ok.hd hc) z TI TO i1 i2 l m D its.toArray its2.toArray,I0 z TI TO i1 i2 l m D its.toArray its2.toArray⟩,⟨st.1,st.2.1,st.2.2.1,st.2.2.2.1,st.2.2.2.2,p.isList,p2.isList⟩,λb hb=>?_,λh q=>⟨q.1,q.2.1,q.2.2.1,q.2.2.2.1,q.2.2.2.2.1⟩,λg=>?_,λg=>?_⟩
  .simp only [mem_cons,not_mem_nil,or_false] at hb ⊢;rcases hb with rfl | rfl | rfl | rfl<;>simp
  .obtain ⟨x',y',v,u,hy,hy2,hv,hu⟩:=g;obtain rfl:=I.fO hy hq;obtain rfl:=I.fO hy2 hq2;obtain ⟨r,er,rr⟩:=rv.get hv;obtain ⟨r2,er2,rr2⟩:=rv2.get hu;have hlt:i<x'.length:=(List.getElem?_eq_some_iff.mp hv).1;have hlt2:i<y'.length:=(List.getElem?_eq_some_iff.mp hu).1;refine ⟨by rw [size_toArray,size_toArray,<- hl,<- hl2]; omega,λvals q=>?_⟩;obtain ⟨x,y,hx,hy',rfl⟩:=q;have ex:x=r:=by
    have:its[i]? = some x:=by simpa using hx
    rw [er] at this; exact (Option.some.inj this).symm
   have ey:y=r2:=by
    have:its2[i]? = some y:=by simpa using hy'
    rw [er2] at this; exact (Option.some.inj this).symm
   subst ex ey;exact ⟨[v,u],yK,.cons rr (.cons rr2 .nil),v,u,rfl,λzs hzs=>by rw [I.fO hzs hq]; exact hv,λzs hzs=>by rw [I.fO hzs hq2]; exact hu⟩
  .obtain ⟨x',y',hy,hy2,e2⟩:=g;obtain rfl:=I.fO hy hq;obtain rfl:=I.fO hy2 hq2;rw [size_toArray,size_toArray,<- hl,<- hl2,e2]
 .exact wpAny_pyIter_zip st.1 q
section
variable{prog:Program}{w:World}{A:Around}{E:Value->Shared->Prop}{s:Shared}
theorem U0{it t:Addr}{i:Nat}{items:Array Value}{x:Value}{Q:Value->Shared->Prop}(hit:s.heap.IsTupleIter it t i)(ht:s.heap.IsTuple t items)(hx:items[i]? = some x)
  (hQ:∀ h',h'.IsTupleIter it t (i+1)->Heap.SameBut it s.heap h'->Q x { s with heap:=h' }):wpAny (model prog w) A (Builtin.SmallTypes.nextOf (.ref it)) Q E s:=by
 obtain ⟨⟨ol,hol,_,nl,hdl⟩,o,ho,hc,hd⟩:=And.intro ht hit;refine wpAny_bind (m:=callSpecial? _ _) (wpAny_callSpecial?_slot hit.typeIs F.slot_tuple_iterator_next (wpAny_call_entry F.slot_tuple_iterator_next hit.typeIs F.entry_tuple_iterator_next ?_ (F.args_tuple_iterator_next_1 _)));refine wpAny_bind (m:=field _ 0) (wpAny_field ho hd (x:=.ref t) rfl ?_);show wpAny _ _ (if false=true then _ else _) _ _ s;rw [if_neg Bool.false_ne_true];refine wpAny_bind (m:=field _ 1) (wpAny_field ho hd (x:=.int i 0) rfl (wpAny_bind (m:=seqItems? _) (wpAny_seqItems hol hdl ?_)));simp only [hx,Int.toNat_natCast];refine wpAny_bind (wpAny_setField ho hd (by simp) (wpAny_pure ⟨x,rfl,wpAny_pure (hQ _ ⟨_,Heap.get?_update_self _ ho (Obj.isFreed_of_fields (Obj.data_mapFields hd _)),(Obj.cls_mapFields ..).trans hc,?_⟩ (Heap.SameBut.update ..))⟩));rw [Obj.data_mapFields hd];simp [rawInt]
theorem OB{it t:Addr}{i:Nat}{items:Array Value}{Q:Value->Shared->Prop}(hh:A.handled=none)(hit:s.heap.IsTupleIter it t i)(ht:s.heap.IsTuple t items)(hx:items[i]? = none)
  (hE:∀ h' e,Heap.ExtBut it s.heap h'->(∃ o,h'.get? e=some o/\o.cls=.type "StopIteration")->E (.ref e) { s with heap:=h' }):wpAny (model prog w) A (Builtin.SmallTypes.nextOf (.ref it)) Q E s:=by
 obtain ⟨⟨ol,hol,_,nl,hdl⟩,o,ho,hc,hd⟩:=And.intro ht hit;refine wpAny_bind (m:=callSpecial? _ _) (wpAny_callSpecial?_slot hit.typeIs F.slot_tuple_iterator_next (wpAny_call_entry F.slot_tuple_iterator_next hit.typeIs F.entry_tuple_iterator_next ?_ (F.args_tuple_iterator_next_1 _)));refine wpAny_bind (m:=field _ 0) (wpAny_field ho hd (x:=.ref t) rfl ?_);show wpAny _ _ (if false=true then _ else _) _ _ s;rw [if_neg Bool.false_ne_true];refine wpAny_bind (m:=field _ 1) (wpAny_field ho hd (x:=.int i 0) rfl (wpAny_bind (m:=seqItems? _) (wpAny_seqItems hol hdl ?_)));simp only [hx,Int.toNat_natCast];refine wpAny_bind (wpAny_rule (wpAny_bind (m:=setField _ _ _) (wpAny_setField ho hd (by simp) ?_)));have hh2:A.in1.handled=none:=hh
 wp_walk
 unfold raiseNew;apply wpAny_bind;apply wpAny_handled;rw [hh2];exact wpAny_bind (wpAny_pure (wpAny_throw (hE _ _ (((Heap.SameBut.update ..).extBut.push _).push _) ⟨_,Heap.get?_push_size _ rfl,rfl⟩)))
theorem aCT(hh:A.handled=none)(it t:Addr)(hne:t≠it)(items:Array Value):Draws prog w A it [it,t] items.size (λi v=>items[i]? = some v) (λi h=>h.IsTupleIter it t i/\h.IsTuple t items) where
 live:=λi h st=>by obtain ⟨⟨o,ho,_⟩,_⟩:=st; exact ⟨o,ho⟩
 frame:=λi h h' st k=>by obtain ⟨⟨o,ho,r⟩,o2,ho2,r2⟩:=st;exact ⟨⟨o,k it (by simp) o ho,r⟩,o2,k t (by simp) o2 ho2,r2⟩
 item:=λi s Q E hi st q=>U0 st.1 st.2 (x:=items[i]) (Array.getElem?_eq_getElem hi) λh' a b=>q _ h' s.toks (Array.getElem?_eq_getElem hi) ⟨a,st.2.extBut b.extBut hne⟩ b
 done:=λs Q E st q=>OB hh st.1 st.2 (Array.getElem?_eq_none (Nat.le_refl _)) q
theorem OC(l:Addr)(items:Array Value):Meets (Builtin.«enumerate.__new__» ⟨[.type "enumerate",.ref l],[]⟩) (λ_ R s=>s.heap.IsTuple l items /\
  R (.ok (.ret (.ref (s.heap.push { cls:=.type "tuple_iterator",data:=.fields #[.ref l,.int 0 0] }).objs.size))) { s with heap:=(s.heap.push { cls:=.type "tuple_iterator",data:=.fields #[.ref l,.int 0 0] }).push { cls:=.type "enumerate",data:=.fields #[.none,.bool false,.ref s.heap.objs.size,rawInt 0,.none,.none] } }):=by
 refine .of_wp λp0 w0 A0 R0 s h=>?_;obtain ⟨hl,h⟩:=h;obtain ⟨hp0,g0,d,tk,os⟩:=s;have hsub:=sub_enumerate
 wp_walk using wpAny_pyIter_tuple hl
 refine wpAny_stack_any λ_=>wpAny_pure ?_;split<;>first
  | (rename_i c _ _ _ _ _; cases (c == Value.type "enumerate")<;>(wp_walk using wpAny_pyIter_tuple hl; exact ⟨_,rfl,h⟩))
  | (wp_walk using wpAny_pyIter_tuple hl; exact ⟨_,rfl,h⟩)
theorem JB{l:Addr}{items:Array Value}{Q:Value->Shared->Prop}(hT:s.heap.IsTuple l items)
  (h:∀ h',IsEnum h' (s.heap.objs.size+1) s.heap.objs.size 0 .none->h'.IsTupleIter s.heap.objs.size l 0->(∀ b o,s.heap.get? b=some o->h'.get? b=some o)->Q (.ref (s.heap.objs.size+1)) { s with heap:=h' }):wpAny (model prog w) A (call (.type "enumerate") [.ref l]) Q E s:=by
 refine callType_new F.called_enumerate (by decide) (F.typeCall_enumerate_1 _) (F.newCall_enumerate_1 _) (λobj=>F.args_object_init_2 obj _) F.entry_enumerate_new (OC l items) ⟨hT,?_⟩;generalize hh1:s.heap.push { cls:=.type "tuple_iterator",data:=.fields #[.ref l,.int 0 0] }=h1;have e1:h1.objs.size=s.heap.objs.size+1:=by rw [<- hh1,Heap.size_push]
 have g1:h1.get? s.heap.objs.size=some { cls:=.type "tuple_iterator",data:=.fields #[.ref l,.int 0 0] }:=by rw [<- hh1]; exact Heap.get?_push_size _ rfl
 have k1:∀ b o,s.heap.get? b=some o->h1.get? b=some o:=λb o e=>by rw [<- hh1]; exact Heap.get?_push_of_some _ e
 generalize hh2:h1.push { cls:=.type "enumerate",data:=.fields #[.none,.bool false,.ref s.heap.objs.size,rawInt 0,.none,.none] }=h2;have g2:h2.get? h1.objs.size=some { cls:=.type "enumerate",data:=.fields #[.none,.bool false,.ref s.heap.objs.size,rawInt 0,.none,.none] }:=by rw [<- hh2]; exact Heap.get?_push_size _ rfl
 have k2:∀ b o,h1.get? b=some o->h2.get? b=some o:=λb o e=>by rw [<- hh2]; exact Heap.get?_push_of_some _ e
 refine ⟨⟨_,g2,rfl⟩,?_⟩;rw [e1] at g2 ⊢;exact h h2 g2 ⟨_,k2 _ _ g1,rfl,rfl⟩ λb o e=>k2 b o (k1 b o e)
end
theorem JC{P:Program}{w:World}{K:PySem.W.Frag}{es:List Expr}{kk:Nat}{tp:Pos}{e it l:Addr}(hei:e≠it)(hle:l≠e)(hli:l≠it) :
  Turn P w K (.Tuple es kk tp) (Iet K l) [e,it] e (λi h=>(∃ old,IsEnum h e it i old)/\h.IsTupleIter it l i):=by
 refine qK (by simp) (λi h st b hb=>?_) (λi h h2 st k=>?_) (λX hP hw hK hc i pins s σ H I st hg=>?_) (λA i s Q E st q=>?_)
 .obtain ⟨⟨old,a⟩,o,c,d1,d2⟩:=st;rcases List.mem_cons.mp hb with rfl | hq
  .exact ⟨_,a,λv z=>by cases z⟩
  .rw [List.mem_singleton.mp hq]; exact ⟨o,c,λv z=>by rw [d2] at z; cases z⟩
 .obtain ⟨⟨old,a⟩,o,b,r⟩:=st;exact ⟨⟨old,k e (by simp) _ a⟩,o,k it (by simp) o b,r⟩
 .subst hP hw hK;have hq:∃ xs,gR X.K H l xs:=by rcases hg with ⟨xs,_,a,_⟩ | ⟨xs,a,_⟩<;>exact ⟨xs,a⟩
  obtain ⟨xs,hq⟩:=hq;obtain ⟨its,rv,p,hz⟩:=I.tuple hq;have hl:=rv.length;have D:Draws X.prog X.w X.A.in1 it [it,l] its.toArray.size (λi v=>its.toArray[i]? = some v) (λi h=>h.IsTupleIter it l i/\h.IsTuple l its.toArray):=aCT (show X.A.in1.handled=none from I.ok.hd hc) it l hli its.toArray;have hef:e∉[it,l]:=λz=>by
   rcases List.mem_cons.mp z with z1 | z1
   .exact hei z1
   .exact hle (List.mem_singleton.mp z1).symm
  refine ⟨_,_,_,_,_,_,⟨WalksT.enumerateD D e hei hef (by simp),GC D e hei hef⟩,⟨st.1,st.2,p⟩,λb hb=>hb,λh q=>⟨q.1,q.2.1⟩,λg=>?_,λg=>?_⟩
  .obtain ⟨ys,v,hy,hv⟩:=g;obtain rfl:=I.oX hy hq;obtain ⟨u,hu,ru⟩:=rv.get hv;have hlt:i<ys.length:=(List.getElem?_eq_some_iff.mp hv).1;refine ⟨by rw [size_toArray,<- hl]; exact hlt,λvals q=>?_⟩;obtain ⟨t,x,hx,rfl⟩:=q;have ex:x=u:=by
    have:its[i]? = some x:=by simpa using hx
    rw [hu] at this; exact (Option.some.inj this).symm
   subst ex;exact ⟨[.int i,v],yK,.cons ⟨t,rfl⟩ (.cons ru .nil),v,rfl,λzs hzs=>by rw [I.oX hzs hq]; exact hv⟩
  .obtain ⟨ys,hy,e2⟩:=g;obtain rfl:=I.oX hy hq;rw [size_toArray,<- hl,e2]
 .obtain ⟨⟨old,a⟩,b⟩:=st;exact wpAny_pyIter_enum a q
section
variable{X:Cx}{es:List Expr}{kk:Nat}{tp:Pos}
theorem ZH{a:Expr}{ta:TA}{p pos:Pos}(hg:Gl X "enumerate")(hm:X.mg "enumerate" = none)(ha:PA X [a] ta)(hs:starEach [a] X.env=[(false,eval a X.env)]:=by rfl) :
  PI X (.Tuple es kk tp) (.Call (.Name "enumerate" p) [a] [] pos) (λσ H R=>ta σ H λvs H1=>∃ l,vs=[.ref l]/\(((∃ xs,eO X.K H1 l xs)/\R (Iel X.K l) H1)\/((∃ xs,gR X.K H1 l xs)/\R (Iet X.K l) H1))):=by
 intro pins s σ H R I h;refine Call_ (qH I hg hm boot_enumerate (PyProof.Rows.callWith_type1 (eS (ha pos pins s σ H _ I h) λus s1 ⟨vs,H1,I1,r1,q1⟩=>?_) hs rfl));obtain ⟨l,e,q⟩:=q1;subst e;obtain ⟨u,rfl,ru⟩:=vals1 r1;cases ru;have fo:∀ b∈[s1.heap.objs.size+1,s1.heap.objs.size],pH X pins H1 b:=λb hb=>by
  have hle:s1.heap.objs.size<=b:=by
   simp only [mem_cons,or_false,not_mem_nil] at hb;rcases hb with rfl | rfl
   .exact Nat.le_succ _
   .exact Nat.le_refl _
  exact I1.FG hle (I1.hok.fresh hle)
 rcases q with ⟨⟨xs,hq⟩,q⟩ | ⟨⟨xs,hq⟩,q⟩
 .obtain ⟨its,rv,pl,hz⟩:=I1.list hq;have hlt:l<s1.heap.objs.size:=by obtain ⟨o,n,e,_⟩:=pl; exact Heap.lt_size e
  refine call_enumerate_list pl.isList λh' he hi hsz hk=>wpAny_pyIter_enum he ?_;exact ⟨s1.heap.objs.size+1,_,_,_,H1,rfl,I1.kept (t':=s1.toks) hk,JA (Nat.succ_ne_self _) (Nat.ne_of_lt (Nat.lt_succ_of_lt hlt)) (Nat.ne_of_lt hlt),⟨⟨_,he⟩,hi⟩,fo,q⟩
 .obtain ⟨its,rv,pl,hz⟩:=I1.tuple hq;have hlt:l<s1.heap.objs.size:=pl.lt;refine JB (items:=its.toArray) pl λh' he hi hk=>wpAny_pyIter_enum he ?_;exact ⟨s1.heap.objs.size+1,_,_,_,H1,rfl,I1.kept (t':=s1.toks) hk,JC (Nat.succ_ne_self _) (Nat.ne_of_lt (Nat.lt_succ_of_lt hlt)) (Nat.ne_of_lt hlt),⟨⟨_,he⟩,hi⟩,fo,q⟩
theorem aCU{a b:Expr}{ta:TA}{p pos:Pos}(hg:Gl X "zip")(hm:X.mg "zip" = none)(ha:PA X [a,b] ta)(hs:starEach [a,b] X.env=[(false,eval a X.env),(false,eval b X.env)]:=by rfl)(hs2:starEach [b] X.env=[(false,eval b X.env)]:=by rfl) :
  PI X (.Tuple es kk tp) (.Call (.Name "zip" p) [a,b] [] pos) (λσ H R=>ta σ H λvs H1=>∃ l m xs ys,vs=[.ref l,.ref m]/\eO X.K H1 l xs/\eO X.K H1 m ys/\R (Izl X.K l m) H1):=by
 intro pins s σ H R I h;refine Call_ (qH I hg hm boot_zip (PyProof.Rows.callWith_type1 (eS (ha pos pins s σ H _ I h) λus s1 ⟨vs,H1,I1,r1,q1⟩=>?_) (by rw [hs,hs2]) (by rw [hs2]; rfl)));obtain ⟨l,m,xs,ys,e,hq,hq2,q⟩:=q1;subst e;obtain ⟨u,u2,rfl,ru,ru2⟩:=vals2 r1;cases ru;cases ru2;obtain ⟨its,rv,pl,hz⟩:=I1.list hq;obtain ⟨its2,rv2,pl2,hz2⟩:=I1.list hq2;have hlt:l<s1.heap.objs.size:=by obtain ⟨o,n,e,_⟩:=pl; exact Heap.lt_size e
 have hlt2:m<s1.heap.objs.size:=by obtain ⟨o,n,e,_⟩:=pl2; exact Heap.lt_size e
 refine call_zip_2 pl.isList pl2.isList λh' hZ hTI hTO hi1 hi2 hsz hk=>wpAny_pyIter_zip hZ ?_;refine ⟨s1.heap.objs.size+4,_,_,_,H1,rfl,I1.kept (t':=s1.toks) hk,UZ (zipApart_new hlt hlt2),⟨hZ,hTI,⟨_,_,hTO⟩,hi1,hi2⟩,λb hb=>?_,q⟩;have hle:s1.heap.objs.size<=b:=by
  simp only [mem_cons,or_false,not_mem_nil] at hb;rcases hb with rfl | rfl | rfl | rfl | rfl
  .exact Nat.le_add_right _ 4
  .exact Nat.le_add_right _ 2
  .exact Nat.le_add_right _ 3
  .exact Nat.le_refl _
  .exact Nat.le_add_right _ 1
 exact I1.FG hle (I1.hok.fresh hle)
noncomputable def uQ(ds:List D):List D:=ds.zipIdx.map λp=>.tup [.int (p.2:Int),p.1]
noncomputable def U1(a b:List D):List D:=(a.zip b).map λp=>.tup [p.1,p.2]
theorem BF{ds:List D}{i:Nat}{d:D}(h:(uQ ds)[i]? = some d):∃ d0,ds[i]? = some d0/\d=.tup [.int (i:Int),d0]:=by
 unfold uQ at h;rw [getElem?_map,List.getElem?_zipIdx] at h
 cases q:ds[i]? with
 | none=>rw [q] at h; cases h
 | some d0 =>
  rw [q] at h;simp at h;exact ⟨d0,rfl,h.symm⟩
theorem U2{a b:List D}{i:Nat}{d:D}(h:(U1 a b)[i]? = some d):∃ x y,a[i]? = some x/\b[i]? = some y/\d=.tup [x,y]:=by
 unfold U1 at h;rw [getElem?_map] at h
 cases q:(a.zip b)[i]? with
 | none=>rw [q] at h; cases h
 | some xy =>
  rw [q] at h;obtain ⟨h1,h2⟩:=List.getElem?_zip_eq_some.mp q;exact ⟨xy.1,xy.2,h1,h2,(Option.some.inj h).symm⟩
theorem DQ{K:PySem.W.Frag}{S:Addr->Prop}{H:Hp}{T:Addr}{x y:V}{dx dy:D}(fr:H T=none)(hx:Dn K S H dx x)(hy:Dn K S H dy y):Dn K S (upd H T (.tup [x,y])) (.tup [dx,dy]) (.ref T):=by simp only [Dn];exact ⟨T,[x,y],rfl,aV,aP.fits (.same (aR fr)) _ _ (aP.cons hx (aP.one hy))⟩
theorem OD{K:PySem.W.Frag}{a:Addr}{ds:List D}:Wlk K (Iel K a) (uQ ds) [(.lst ds,.ref a)] where
 go:=λS H fc hg i d e=>by have h:=hg _ (List.mem_singleton.mpr rfl);simp only [Dn] at h;obtain ⟨b,xs,eb,hb,sb,dn⟩:=h;injection eb with eb;subst eb;obtain ⟨d0,e0,rfl⟩:=BF e;obtain ⟨v,ev,dv⟩:=dn.get e0;refine ⟨⟨xs,v,eO.of hb,ev⟩,λx H' y=>?_⟩;obtain ⟨T,vs,rfl,fr,rfl,v',rfl,hy⟩:=y;have ex:=hy xs (eO.of hb);rw [ev] at ex;cases ex;exact ⟨aR fr,DQ fr (by simp only [Dn]) dv⟩
 stop:=λS H hg i hi=>by have h:=hg _ (List.mem_singleton.mpr rfl);simp only [Dn] at h;obtain ⟨b,xs,eb,hb,sb,dn⟩:=h;injection eb with eb;subst eb;exact ⟨xs,eO.of hb,by rw [<- dn.len,<- hi]; simp [uQ]⟩
theorem OE{K:PySem.W.Frag}{a:Addr}{ds:List D}:Wlk K (Iet K a) (uQ ds) [(.tup ds,.ref a)] where
 go:=λS H fc hg i d e=>by have h:=hg _ (List.mem_singleton.mpr rfl);simp only [Dn] at h;obtain ⟨b,xs,eb,hb,dn⟩:=h;injection eb with eb;subst eb;obtain ⟨d0,e0,rfl⟩:=BF e;obtain ⟨v,ev,dv⟩:=dn.get e0;refine ⟨⟨xs,v,(gR.of hb),ev⟩,λx H' y=>?_⟩;obtain ⟨T,vs,rfl,fr,rfl,v',rfl,hy⟩:=y;have ex:=hy xs (gR.of hb);rw [ev] at ex;cases ex;exact ⟨aR fr,DQ fr (by simp only [Dn]) dv⟩
 stop:=λS H hg i hi=>by have h:=hg _ (List.mem_singleton.mpr rfl);simp only [Dn] at h;obtain ⟨b,xs,eb,hb,dn⟩:=h;injection eb with eb;subst eb;exact ⟨xs,(gR.of hb),by rw [<- dn.len,<- hi]; simp [uQ]⟩
theorem ZI{K:PySem.W.Frag}{a c:Addr}{ds es:List D}:Wlk K (Izl K a c) (U1 ds es) [(.lst ds,.ref a),(.lst es,.ref c)] where
 go:=λS H fc hg i d e=>by have h:=hg (.lst ds,.ref a) (by simp);have h2:=hg (.lst es,.ref c) (by simp);simp only [Dn] at h h2;obtain ⟨b,xs,eb,hb,sb,dn⟩:=h;obtain ⟨b2,ys,eb2,hb2,sb2,LX⟩:=h2;injection eb with eb;injection eb2 with eb2;subst eb eb2;obtain ⟨x0,y0,e0,e1,rfl⟩:=U2 e;obtain ⟨v,ev,dv⟩:=dn.get e0;obtain ⟨u,eu,du⟩:=LX.get e1;refine ⟨⟨xs,ys,v,u,eO.of hb,eO.of hb2,ev,eu⟩,λx H' y=>?_⟩;obtain ⟨T,vs,rfl,fr,rfl,v',u',rfl,hy,hy2⟩:=y;have ex:=hy xs (eO.of hb);have ex2:=hy2 ys (eO.of hb2);rw [ev] at ex;rw [eu] at ex2;cases ex;cases ex2;exact ⟨aR fr,DQ fr dv du⟩
 stop:=λS H hg i hi=>by have h:=hg (.lst ds,.ref a) (by simp);have h2:=hg (.lst es,.ref c) (by simp);simp only [Dn] at h h2;obtain ⟨b,xs,eb,hb,sb,dn⟩:=h;obtain ⟨b2,ys,eb2,hb2,sb2,LX⟩:=h2;injection eb with eb;injection eb2 with eb2;subst eb eb2;exact ⟨xs,ys,eO.of hb,eO.of hb2,by rw [<- dn.len,<- LX.len,<- hi]; simp [U1]⟩
noncomputable def aEp(t:WA):WI:=λρ Q=>t ρ λds=>match ds with
 | [.lst es]=>Q (uQ es)
 | [.tup es]=>Q (uQ es)
 | _=>False
noncomputable def aJx(t:WA):WI:=λρ Q=>t ρ λds=>match ds with
 | [.lst a,.lst b]=>Q (U1 a b)
 | _=>False
theorem JD{a:Expr}{t:WA}{p pos:Pos}(hm:X.mg "enumerate" = none)(ha:BB X [a] t)(hg:Gl X "enumerate" := by rfl)(hs:starEach [a] X.env=[(false,eval a X.env)]:=by rfl):UN X (.Tuple es kk tp) (.Call (.Name "enumerate" p) [a] [] pos) (aEp t) :=
 UO (ZH hg hm ha hs) λσ H R aJy=>by
  obtain ⟨S,ρ,Q3,fc,sl,ht,k⟩:=aJy;refine ⟨S,ρ,_,fc,sl,ht,λvs H1 ds s1 d1 q1=>?_⟩;split at q1
  .obtain ⟨v,r,rfl,h1,h2⟩:=d1.bV;simp only [aP] at h2;subst h2;have h1':=h1;simp only [Dn] at h1;obtain ⟨l,xs,rfl,hl,sl',da⟩:=h1;exact ⟨l,rfl,.inl ⟨⟨xs,eO.of hl⟩,k _ H1 _ [(_,.ref l)] s1 (λg hg=>by cases List.mem_singleton.mp hg; exact h1') OD q1⟩⟩
  .obtain ⟨v,r,rfl,h1,h2⟩:=d1.bV;simp only [aP] at h2;subst h2;have h1':=h1;simp only [Dn] at h1;obtain ⟨l,xs,rfl,hl,da⟩:=h1;exact ⟨l,rfl,.inr ⟨⟨xs,(gR.of hl)⟩,k _ H1 _ [(_,.ref l)] s1 (λg hg=>by cases List.mem_singleton.mp hg; exact h1') OE q1⟩⟩
  .exact q1.elim
theorem aJz{a b:Expr}{t:WA}{p pos:Pos}(hm:X.mg "zip" = none)(ha:BB X [a,b] t)(hg:Gl X "zip" := by rfl)(hs:starEach [a,b] X.env=[(false,eval a X.env),(false,eval b X.env)]:=by rfl)(hs2:starEach [b] X.env=[(false,eval b X.env)]:=by rfl) :
  UN X (.Tuple es kk tp) (.Call (.Name "zip" p) [a,b] [] pos) (aJx t) :=
 UO (aCU hg hm ha hs hs2) λσ H R aKA=>by
  obtain ⟨S,ρ,Q3,fc,sl,ht,k⟩:=aKA;refine ⟨S,ρ,_,fc,sl,ht,λvs H1 ds s1 d1 q1=>?_⟩;split at q1
  .obtain ⟨v,r,rfl,h1,h2⟩:=d1.bV;obtain ⟨v2,r2,rfl,h3,h4⟩:=h2.bV;simp only [aP] at h4;subst h4;have h1':=h1;have h3':=h3;simp only [Dn] at h1 h3;obtain ⟨l,xs,rfl,hl,sl',da⟩:=h1;obtain ⟨m,ys,rfl,hl2,sl2,da2⟩:=h3;refine ⟨l,m,xs,ys,rfl,eO.of hl,eO.of hl2,k _ H1 _ [(_,.ref l),(_,.ref m)] s1 (λg hg=>?_) ZI q1⟩;rcases List.mem_cons.mp hg with rfl | hg
   .exact h1'
   .cases List.mem_singleton.mp hg; exact h3'
  .exact q1.elim
end
section
variable{X:Cx}{a b:Expr}{pos:Pos}{ta tb:WE}
theorem ZJ:nC X (binaryOp .Mult) (rI IntMulOk λi j=>.int (i*j)):=opI λ_ _ _ _ _ _ _ hc q=>mul_int q hc
noncomputable def aEq:F2:=N3 IntMulOk λi j=>.int (i*j)
theorem aEr(ha:dF X a ta)(hb:dF X b tb):dF X (.BinOp a .Mult b pos) (hJ aEq ta tb):=op3 ZJ DL ha hb
end
theorem ZK{i j:Int}{m n:Nat}(hi:i.natAbs<2 ^ m)(hj:j.natAbs<2 ^ n)(h:m+n<=134217728):IntMulOk i j:=by exact mulOk_of_bits (intBits_le hi) (intBits_le hj) h
section
variable{X:Cx}
noncomputable def aPD(t:WE):WT:=λρ Q=>t ρ λd=>match d with
 | .lst ds=>Q (!ds.isEmpty)
 | .tup ds=>Q (!ds.isEmpty)
 | _=>False
theorem aP.empty{K:PySem.W.Frag}{S:Addr->Prop}{H:Hp}{ds:List D}{xs:List V}(h:aP K S H ds xs):ds.isEmpty=xs.isEmpty:=by have:=h.len;cases ds<;>cases xs<;>simp at this ⊢
noncomputable def aEs:List V->Hp->VK->Prop:=λxs H Q=>∃ (a:Addr) (ns:List Int),xs=[.ref a]/\H a=some (.lst (ns.map V.int))/\Q (.int ns.sum) H
theorem OG(hc:X.calm=true):fP X (.builtin "sum") aEs:=by
 intro pins s σ H xs us Q I r h;obtain ⟨a,ns,rfl,ha,q⟩:=h;obtain ⟨u,rfl,ru⟩:=vals1 r;cases ru;obtain ⟨its,rv,p,hz⟩:=I.list (eO.of ha);have hi:=intsAre_of rv;obtain ⟨zs,ez⟩:=hi.allInts.items;have en:zs.toList.map (·.1)=ns:=by rw [<- nums_intItems,<- ez];exact hi.numsOf
 have ev:preSum (numAt zs) zs.size=ns.sum:=by rw [preSum_eq,take_of_length_le (by simp),en]
 refine sum_intListG (I.ok.hd hc) (ez▸p.isList) λh' tk t' hk=>⟨.int ns.sum,H,I.kept hk,⟨t',by rw [ev]⟩,q⟩
noncomputable def sumF:F1
 | [.lst ds],Q=>(match intsOf ds with | some ns=>Q (.int ns.sum) | none=>False)
 | _,_=>False
theorem OH{ns:List Int}{Q:D->Prop}:sumF [.lst (ns.map D.int)] Q=Q (.int ns.sum):=by show (match intsOf (ns.map D.int) with | some ns=>Q (.int ns.sum) | none=>False)=_;rw [dO]
theorem aCW{K:PySem.W.Frag}:C3 K aEs sumF:=by
 intro S H xs ds Q3 Q fc hd hf k
 match ds,hf with
 | [.lst es],hf =>
  obtain ⟨v,r,rfl,h1,h2⟩:=hd.bV;simp only [aP] at h2;subst h2;simp only [Dn] at h1;obtain ⟨a,ys,rfl,ha,sa,da⟩:=h1;have hf2:(match intsOf es with | some ns=>Q3 (.int ns.sum) | none=>False):=hf
  clear hf
  cases q:intsOf es with
  | none=>rw [q] at hf2; exact hf2.elim
  | some ns =>
   rw [q] at hf2;have e:=tS q;subst e;have e2:=aP.ints.mp da;subst e2;exact ⟨a,ns,rfl,ha,k _ H _ (Same.refl H) (by simp only [Dn]) hf2⟩
theorem aKB{p pos:Pos}{e:Expr}{t:WA}(hc:X.calm=true)(hm:X.mg "sum" = none)(ha:BB X [e] t)(hg:Gl X "sum" := by rfl)
  (he:starEach [e] X.env=(false,eval e X.env)::starEach [] X.env:=by rfl):dF X (.Call (.Name "sum" p) [e] [] pos) (UJ sumF t):=tQ (OG hc) aCW PyProof.Rows.boot_sum hg hm ha (by decide) (by decide) he (by rfl)
noncomputable abbrev WO:=cJ->(Option Int->Prop)->Prop
noncomputable def aEt(K:PySem.W.Frag)(t:WO):TO:=λσ H Q=>∃ (S:Addr->Prop) (ρ:cJ) (Q3:Option Int->Prop),(∀ a,H a=none->S a)/\Sl K S H ρ σ/\t ρ Q3 /\ ∀ o H',Same H H'->Q3 o->Q o H'
noncomputable def PO3(X:Cx)(e:Option Expr)(t:WO):Prop:=PO X e (aEt X.K t)
noncomputable def ZL:WO:=λ_ Q=>Q none
noncomputable def aEu(t:WE):WO:=λρ Q=>t ρ λd=>match d with
 | .int i=>Q (some i)
 | _=>False
theorem aKC:PO3 X none ZL:=λpins s σ H Q I aKD=>by obtain ⟨S,ρ,Q3,fc,sl,ht,k⟩:=aKD; exact YO pins s σ H Q I (k none H (Same.refl H) ht)
theorem po3{e:Expr}{t:WE}(h:dF X e t):PO3 X (some e) (aEu t):=λpins s σ H Q I aKE=>by
 obtain ⟨S,ρ,Q3,fc,sl,ht,k⟩:=aKE;refine YQ h pins s σ H Q I ⟨S,ρ,_,fc,sl,ht,λv H1 d s1 d1 q1=>?_⟩
 cases d with
 | int i=>simp only [Dn] at d1; exact ⟨i,d1,k _ H1 s1 q1⟩
 | _=>exact q1.elim
noncomputable def cutD(xs:List D)(lo hi:Option Int):List D:=(xs.drop (HT.gF xs.length 0 lo)).take (HT.gF xs.length xs.length hi - HT.gF xs.length 0 lo)
theorem aP.cut{K:PySem.W.Frag}{S:Addr->Prop}{H:Hp}{ds:List D}{xs:List V}{lo hi:Option Int}(h:aP K S H ds xs):aP K S H (cutD ds lo hi) (FI xs lo hi):=by unfold cutD FI;rw [h.len];exact (h.drop _).take _
theorem U3{prog:Program}{w:World}{A:Around}{E:Value->Shared->Prop}{s:Shared}{t sl:Addr}{items:Array Value}{vl vu:Value}{lo hi:Option Int}{Q:Value->Shared->Prop}(ht:IsTup s.heap t items)(hs:s.heap.IsSliceOf sl vl vu .none)(pl:IsPart vl lo)(pu:IsPart vu hi)
  (h0:HT.gF items.size 0 lo=0) (h1:HT.gF items.size items.size hi=items.size) (h:Q (.ref t) s):wpAny (model prog w) A (getItem (.ref t) (.ref sl)) Q E s:=by
 have hT:s.TypeIs (.ref sl) "slice" := by obtain ⟨o,a,b,_⟩:=hs; exact ⟨o,a,b⟩
 unfold getItem
 try with_reducible refine wpAny_holding ?_
 first | refine wpAny_bind (wpAny_pure ?_) | skip
 apply wpAny_bind;refine wpAny_sequenceKey ht.typeIs (by decide) (wpAny_bind (wpAny_callSpecial?_slot ht.typeIs PyProof.Rows.slot_tuple_getitem (wpAny_call_entry PyProof.Rows.slot_tuple_getitem ht.typeIs entry_tuple_getitem ?_ (args_tuple_getitem _ _))));refine wpAny_bind (m:=Builtin.Tuple.tupleItemsOf _) (tupleItemsOf_ ht (wpAny_bind (wpAny_typeOf hT ?_)));rw [if_pos (by decide)];refine wpAny_bind (HT.lH (n:=items.size) hs pl pu ?_);rw [h0,h1];show wpAny _ _ (if ((((0:Nat):Int) == 0)&&((1:Int) == 1)&&((items.size - 0) == items.size))=true then _ else _) _ _ s;rw [if_pos (by simp)];refine wpAny_bind (m:=Builtin.Tuple.tupleIsExact _) (wpAny_bind (wpAny_typeOf ht.typeIs (wpAny_pure ?_)));show wpAny _ _ (if true=true then _ else _) _ _ s;rw [if_pos rfl];exact wpAny_bind (wpAny_rule (wpAny_pure ⟨_,rfl,wpAny_pure h⟩))
noncomputable def aKF(K:PySem.W.Frag):V->Option Int->Option Int->Hp->VK->Prop:=λx lo hi H Q=>∃ a xs,x=.ref a/\gR K H a xs/\(HT.gF xs.length 0 lo=0/\HT.gF xs.length xs.length hi=xs.length)/\Q (.ref a) H
theorem ZM:SlR X (aKF X.K):=by
 intro pins s σ H x v vl vu lo hi sl Q I rx hs pl pu h;obtain ⟨a,xs,rfl,hx,hw,q⟩:=h;cases rx;obtain ⟨its,r,ht,hz⟩:=I.tuple hx;have hlen:its.toArray.size=xs.length:=by rw [size_toArray]; exact r.length.symm
 exact ⟨"tuple",_,PyProof.Rows.slot_tuple_getitem.lookup,ht.typeIs,U3 ht hs pl pu (by rw [hlen]; exact hw.1) (by rw [hlen]; exact hw.2) ⟨.ref a,H,I,rfl,q⟩⟩
noncomputable def wSl(te:WE)(tl th:WO):WE:=λρ Q=>te ρ λd=>tl ρ λlo=>th ρ λhi=>match d with
 | .lst ds=>Q (.lst (cutD ds lo hi))
 | .tup ds=>Q (.tup (cutD ds lo hi))
 | _=>False
theorem sl3{e:Expr}{lo hi:Option Expr}{p2 pos:Pos}{te:WE}{tl th:WO}(he:dF X e te)(hl:PO3 X lo tl)(hh:PO3 X hi th):dF X (.Subscript e (.Slice lo hi none p2) pos) (wSl te tl th) :=
 imp (TC (YT.or (aBe.or ZM)) he hl hh) λσ H Q aKH=>by
  obtain ⟨S,ρ,Q3,fc,sl,ht,k⟩:=aKH;refine ⟨S,ρ,_,fc,sl,ht,λv H1 d s1 d1 q1=>?_⟩;refine ⟨S,ρ,_,cH fc s1,Sl.fits (.same s1) sl,q1,λo H2 s2 q2=>?_⟩;refine ⟨S,ρ,_,cH fc (s1.trans s2),Sl.fits (.same (s1.trans s2)) sl,q2,λo2 H3 s3 q3=>?_⟩;have d3:=Dn.fits (.same (s2.trans s3)) _ _ d1;have sa:=(s1.trans s2).trans s3
  cases d with
  | lst ds =>
   simp only [Dn] at d3;obtain ⟨a,xs,rfl,ha,sa',da⟩:=d3;refine .inl ⟨a,xs,rfl,eO.of ha,λp hp=>k _ _ _ (sa.trans (aR hp)) ?_ q3⟩;simp only [Dn];exact ⟨p,_,rfl,aV,cH fc sa p hp,aP.fits (.same (aR hp)) _ _ da.cut⟩
  | tup ds =>
   simp only [Dn] at d3;obtain ⟨a,xs,rfl,ha,da⟩:=d3;have hl:=da.len;by_cases hw:HT.gF xs.length 0 o=0/\HT.gF xs.length xs.length o2=xs.length
   .refine .inr (.inr ⟨a,xs,rfl,(gR.of ha),hw,k _ _ _ sa ?_ q3⟩);have e:cutD ds o o2=ds:=by unfold cutD;rw [hl,hw.1,hw.2,drop_zero,Nat.sub_zero,take_of_length_le (Nat.le_of_eq hl)]
    rw [e];simp only [Dn];exact ⟨a,xs,rfl,ha,da⟩
   .refine .inr (.inl ⟨a,xs,rfl,(gR.of ha),hw,λp hp=>k _ _ _ (sa.trans (aR hp)) ?_ q3⟩);simp only [Dn];exact ⟨p,_,rfl,aV,aP.fits (.same (aR hp)) _ _ da.cut⟩
  | _=>exact q3.elim
end
section
variable{X:Cx}{tg:Expr}
end
end L3
end
section
namespace L4
open PySem PySem.Spec PyProof.Rows L2 L3
noncomputable def wE(f:EF):WE:=λρ Q=>∃ d,f ρ=some d/\Q d
noncomputable def wT(f:TF):WT:=λρ Q=>∃ d,f ρ=some d/\Q d
noncomputable def wA(f:AF):WA:=λρ Q=>∃ d,f ρ=some d/\Q d
noncomputable def wI(f:AF):WI:=λρ Q=>∃ d,f ρ=some d/\Q d
noncomputable def wO(f:OF):WO:=λρ Q=>∃ d,f ρ=some d/\Q d
noncomputable def wX(f:XF):WX:=λρ Q=>∃ p,f ρ=some p/\Q p.1 p.2
noncomputable def wS(f:SF):WS:=λE ρ=>match f ρ with
 | .nx ρ'=>E.nx ρ'
 | .rt d=>E.rt d
 | .ex c=>E.ex c
 | .no=>False
noncomputable def wG(g:QY):WG:=λd ρ Q=>∃ ρ',g d ρ=some ρ'/\Q ρ'
noncomputable def wGE(g:HE):GE:=λd ρ Q=>∃ ρ',g d ρ=some ρ'/\Q ρ'
noncomputable abbrev dA(X:Cx)(e:Expr)(f:EF):Prop:=dF X e (wE f)
noncomputable abbrev kK(X:Cx)(e:Expr)(f:EF):Prop:=IT X e (wE f)
noncomputable abbrev BG(X:Cx)(e:Expr)(f:TF):Prop:=zE X e (wT f)
noncomputable abbrev QT(X:Cx)(e:Expr)(f:TF):Prop:=QS X e (wT f)
noncomputable abbrev BH(X:Cx)(es:List Expr)(f:AF):Prop:=BB X es (wA f)
noncomputable abbrev PI4(X:Cx)(tg e:Expr)(f:AF):Prop:=UN X tg e (wI f)
noncomputable abbrev PO4(X:Cx)(e:Option Expr)(f:OF):Prop:=PO3 X e (wO f)
noncomputable abbrev MA(X:Cx)(e:Expr)(f:XF):Prop:=FR X e (wX f)
noncomputable abbrev vW(X:Cx)(st:Stmt)(f:SF):Prop:=DO X st (wS f)
noncomputable abbrev DR(X:Cx)(st:List Stmt)(f:SF):Prop:=vE X st (wS f)
section
variable{X:Cx}
theorem cE{e:Expr}{t t':WE}(h:dF X e t)(c:∀ ρ Q,t' ρ Q->t ρ Q):dF X e t':=imp h λ_ _ _ aKJ=>by obtain ⟨S,ρ,Q3,fc,sl,ht,k⟩:=aKJ; exact ⟨S,ρ,Q3,fc,sl,c ρ Q3 ht,k⟩
theorem cF{e:Expr}{t t':WE}(h:IT X e t)(c:∀ ρ Q,t' ρ Q->t ρ Q):IT X e t':=imp h λ_ _ _ aKK=>by obtain ⟨S,ρ,Q3,fc,sl,ht,k⟩:=aKK; exact ⟨S,ρ,Q3,fc,sl,c ρ Q3 ht,k⟩
theorem cT{e:Expr}{t t':WT}(h:zE X e t)(c:∀ ρ Q,t' ρ Q->t ρ Q):zE X e t':=T9 h λ_ _ _ aKL=>by obtain ⟨S,ρ,Q3,fc,sl,ht,k⟩:=aKL; exact ⟨S,ρ,Q3,fc,sl,c ρ Q3 ht,k⟩
theorem cW{e:Expr}{t t':WT}(h:QS X e t)(c:∀ ρ Q,t' ρ Q->t ρ Q):QS X e t':=aBq h λ_ _ _ aKM=>by obtain ⟨S,ρ,Q3,fc,sl,ht,k⟩:=aKM; exact ⟨S,ρ,Q3,fc,sl,c ρ Q3 ht,k⟩
theorem cA{e:List Expr}{t t':WA}(h:BB X e t)(c:∀ ρ Q,t' ρ Q->t ρ Q):BB X e t':=UA h λ_ _ _ aKN=>by obtain ⟨S,ρ,Q3,fc,sl,ht,k⟩:=aKN; exact ⟨S,ρ,Q3,fc,sl,c ρ Q3 ht,k⟩
theorem cI{tg e:Expr}{t t':WI}(h:UN X tg e t)(c:∀ ρ Q,t' ρ Q->t ρ Q):UN X tg e t':=UO h λ_ _ _ aKO=>by obtain ⟨S,ρ,Q3,fc,sl,ht,k⟩:=aKO; exact ⟨S,ρ,Q3,fc,sl,c ρ Q3 ht,k⟩
theorem cX{e:Expr}{t t':WX}(h:FR X e t)(c:∀ ρ Q,t' ρ Q->t ρ Q):FR X e t':=imp h λ_ _ _ aKP=>by obtain ⟨H₀,S,w,ρ,G,Q3,hl,st,ht,k⟩:=aKP; exact ⟨H₀,S,w,ρ,G,Q3,hl,st,c ρ Q3 ht,k⟩
theorem cS{e:Stmt}{t t':WS}(h:DO X e t)(c:∀ E ρ,t' E ρ->t E ρ):DO X e t':=lI h λ_ _ _ aKQ=>by obtain ⟨H₀,S,w,ρ,G,E,hl,st,ht,ok⟩:=aKQ; exact ⟨H₀,S,w,ρ,G,E,hl,st,c E ρ ht,ok⟩
theorem cSs{e:List Stmt}{t t':WS}(h:vE X e t)(c:∀ E ρ,t' E ρ->t E ρ):vE X e t':=FQ h λ_ _ _ aKR=>by obtain ⟨H₀,S,w,ρ,G,E,hl,st,ht,ok⟩:=aKR; exact ⟨H₀,S,w,ρ,G,E,hl,st,c E ρ ht,ok⟩
theorem QT.pt{e:Expr}{f:TF}(h:QT X e f):BG X e f:=QS.pt h
theorem kK.pe{e:Expr}{f:EF}(h:kK X e f):dA X e f:=IT.pe h
theorem bnd{α β:Type}{o:Option α}{f:α->Option β}{b:β}(h:o.bind f=some b):∃ a,o=some a/\f a=some b:=by
 cases o with
 | none=>cases h
 | some a=>exact ⟨a,rfl,h⟩
theorem uR{α β:Type}{o:Option α}{f:α->β}{b:β}(h:o.map f=some b):∃ a,o=some a/\f a=b:=by
 cases o with
 | none=>cases h
 | some a=>exact ⟨a,rfl,Option.some.inj h⟩
theorem x4(i:Nat){x:Str}{pos:Pos}(hN:X.N[i]? = some x:=by rfl)(hv:AZ X.env.scope x:=by first | exact Or.inl rfl | exact Or.inr (Or.inl rfl) | exact Or.inr (Or.inr rfl))(hd:(x == ("__debug__" : Str))=false:=by decide)
  (hcd:(x == ("__classdict__" : Str))=false:=by decide):dA X (.Name x pos) (aB i):=cE (x3 i hN hv hd hcd) λρ Q aKS=>by
 obtain ⟨d,e,q⟩:=aKS;unfold aB at e;unfold YY
 cases h:ρ[i]? with
 | none=>rw [h] at e; cases e
 | some o =>
  rw [h] at e
  cases o with
  | none=>cases e
  | some d'=>cases e; exact q
theorem i4{i:Int}{j pos}:dA X (.Constant (.int i) j pos) (eC (.int i)):=cE i3 λ_ _ aKT=>by obtain ⟨_,e,q⟩:=aKT; cases e; exact q
theorem b4{b:Bool}{j pos}:dA X (.Constant (.bool b) j pos) (eC (.bl b)):=cE b3 λ_ _ aKU=>by obtain ⟨_,e,q⟩:=aKU; cases e; exact q
theorem n4{j pos}:dA X (.Constant .none j pos) (eC .non):=cE n3 λ_ _ aKV=>by obtain ⟨_,e,q⟩:=aKV; cases e; exact q
noncomputable def Tells(f:F2)(g:D->D->Option D):Prop:=∀ (x y d:D) (Q:D->Prop),g x y=some d->Q d->f x y Q
theorem kL{f:F2}{g:D->D->Option D}(h:Tells f g){fa fb:EF}(ρ:cJ)(Q:D->Prop)(w:wE (aE g fa fb) ρ Q):hJ f (wE fa) (wE fb) ρ Q:=by obtain ⟨d,e,q⟩:=w;obtain ⟨x,ex,e⟩:=bnd e;obtain ⟨y,ey,e⟩:=bnd e;exact ⟨x,ex,y,ey,h x y d Q e q⟩
theorem pB{g:Int->Int->D}:Tells (yD g) (HA g):=λx y d Q e q=>by
 cases x<;>first | (cases e; done) | skip
 all_goals (cases y<;>first | (cases e; done) | skip)
 cases e; exact q
theorem mP{C:Int->Int->Prop}{c:Int->Int->Bool}{g:Int->Int->D}(h:∀ i j,c i j=true->C i j):Tells (N3 C g) (pQ c g):=λx y d Q e q=>by
 cases x<;>first | (cases e; done) | skip
 all_goals (cases y<;>first | (cases e; done) | skip)
 rename_i i j;have e:(if c i j=true then some (g i j) else none)=some d:=e;by_cases hc:c i j=true
 .rw [if_pos hc] at e; cases e; exact ⟨h i j hc,q⟩
 .rw [if_neg hc] at e; cases e
theorem szl{n:Nat}{α:Type}{x d:α}{Q:α->Prop}(e:(if n<=pE then some x else none)=some d)(q:Q d):n<=sizeLine/\Q x:=by
 by_cases h:n<=pE
 .rw [if_pos h] at e; cases e; exact ⟨by rw [sizeLine_eq]; exact h,q⟩
 .rw [if_neg h] at e; cases e
theorem OJ:Tells aBo dB:=λx y d Q e q=>by
 cases x<;>first | (cases e; done) | skip
 all_goals (cases y<;>first | (cases e; done) | skip)
 .cases e; exact q
 .exact szl (x:=D.str _) e q
 .exact szl (x:=D.tup _) e q
 .exact szl (x:=D.lst _) e q
theorem OK:Tells aEK MX:=λx y d Q e q=>by
 cases x<;>first | (cases e; done) | skip
 all_goals (cases y<;>first | (cases e; done) | skip)
 exact szl (x:=D.lst _) e q
theorem aCY{i j:Int}(h:wH i j=true):IntMulOk i j:=by
 unfold wH at h;simp only [Bool.or_eq_true,decide_eq_true_eq] at h;rcases h with (h | h) | h
 .exact YG.ok (.inl ⟨by omega,by omega⟩)
 .exact YG.ok (.inr ⟨by omega,by omega⟩)
 .refine ZK (m:=i.natAbs.log2+1) (n:=j.natAbs.log2+1) ?_ ?_ (by omega)
  .exact Nat.lt_log2_self
  .exact Nat.lt_log2_self
section
variable{a b:Expr}{pos:Pos}{fa fb:EF}
theorem fV(ha:dA X a fa)(hb:dA X b fb):dA X (.BinOp a .Add b pos) (aE dB fa fb):=cE (aIH ha hb) (kL OJ)
theorem DS(ha:dA X a fa)(hb:dA X b fb):dA X (.BinOp a .Sub b pos) (aE fA fa fb):=cE (aID ha hb) (kL pB)
theorem qL(ha:dA X a fa)(hb:dA X b fb):dA X (.BinOp a .Mult b pos) (aE mulM fa fb):=cE (aEr ha hb) (kL (mP λ_ _ h=>aCY h))
theorem pI(ha:dA X a fa)(hb:dA X b fb):dA X (.BinOp a .Mod b pos) (aE iN fa fb):=cE (aIE ha hb) (kL (mP λ_ _ h=>by simpa using h))
theorem U4(ha:dA X a fa)(hb:dA X b fb):dA X (.BinOp a .FloorDiv b pos) (aE uZ fa fb):=cE (aIF ha hb) (kL (mP λi j h=>by simp only [Bool.and_eq_true,decide_eq_true_eq] at h;exact ⟨h.1,by omega⟩))
theorem U5(ha:dA X a fa)(hb:dA X b fb):dA X (.BinOp a .Pow b pos) (aE pX fa fb):=cE (aIG ha hb) (kL (mP λi j h=>by simp only [Bool.and_eq_true,decide_eq_true_eq] at h;exact ⟨h.1.1,by omega,h.2⟩))
theorem aEv(ha:dA X a fa)(hb:dA X b fb):kK X (.BinOp a .Add b pos) (aE MX fa fb):=cF (aEL ha hb) (kL OK)
theorem tells_eq:Tells Y2 wJ:=λx y d Q e q=>by
 cases x<;>first | (cases e; done) | skip
 all_goals (cases y<;>first | (cases e; done) | skip)
 all_goals (cases e; exact ⟨rfl,q⟩)
theorem GD:Tells Y3 MV:=λx y d Q e q=>by
 cases x<;>first | (cases e; done) | skip
 all_goals (cases y<;>first | (cases e; done) | skip)
 all_goals (cases e; exact ⟨rfl,q⟩)
theorem ints_of:∀ {ds:List D} {ns:List Int},intsOf ds=some ns->ds=ns.map D.int
 | [],ns,h=>by cases h; rfl
 | d::ds,ns,h=>by
  cases d<;>first | cases h; done | skip
  obtain ⟨m,e,rfl⟩:=uR h;rw [ints_of e]; rfl
theorem GF{neg:Bool}:Tells (inF neg) (oP neg):=λx y d Q e q=>by
 cases x<;>first | (cases e; done) | skip
 all_goals (cases y<;>first | (cases e; done) | skip)
 all_goals
  obtain ⟨ns,e1,rfl⟩:=uR e;have:=ints_of e1;subst this;exact ⟨BC ns,by rw [BD]; exact q⟩
theorem GG:Tells Y4 W9:=λx y d Q e q=>by
 unfold W9 at e;split at e
 .rename_i h;cases e;refine ⟨(by cases y<;>first | rfl | cases h),?_⟩;have:isD x=wK x:=by cases x<;>rfl
  rw [this]; exact q
 .cases e
theorem eq4(ha:dA X a fa)(hb:dA X b fb):dA X (.Compare a [.Eq] [b] pos) (aE wJ fa fb):=cE (aIT ha hb) (kL tells_eq)
theorem ne4(ha:dA X a fa)(hb:dA X b fb):dA X (.Compare a [.NotEq] [b] pos) (aE MV fa fb):=cE (aIU ha hb) (kL GD)
theorem in4(ha:dA X a fa)(hb:dA X b fb)(hm:behindInMarks .In b=false:=by with_unfolding_all rfl):dA X (.Compare a [.In] [b] pos) (aE (oP false) fa fb):=cE (in3 ha hb hm) (kL GF)
theorem is4(ha:dA X a fa)(hb:dA X b fb):dA X (.Compare a [.Is] [b] pos) (aE W9 fa fb):=cE (aIY ha hb) (kL GG)
theorem yL{f:F2}{g:D->D->Option D}(h:Tells f g)(hb:∀ x y d,g x y=some d -> ∃ b,d=.bl b){fa fb:EF}(ρ:cJ)(Q:Bool->Prop)(w:wT (tV (aE g fa fb)) ρ Q):pU (hJ f (wE fa) (wE fb)) ρ Q:=by obtain ⟨b,e,q⟩:=w;obtain ⟨d,e1,e2⟩:=bnd e;obtain ⟨x,ex,e1⟩:=bnd e1;obtain ⟨y,ey,e1⟩:=bnd e1;obtain ⟨c,rfl⟩:=hb x y d e1;cases e2;exact ⟨x,ex,y,ey,h x y _ _ e1 q⟩
theorem JE{g:Int->Int->Bool}(x y d:D)(e:HA (λi j=>.bl (g i j)) x y=some d):∃ b,d=.bl b:=by
 cases x<;>first | (cases e; done) | skip
 all_goals (cases y<;>first | (cases e; done) | skip)
 cases e; exact ⟨_,rfl⟩
theorem aEw(x y d:D)(e:wJ x y=some d):∃ b,d=.bl b:=by obtain ⟨b,_,rfl⟩:=uR e; exact ⟨_,rfl⟩
theorem aEx(x y d:D)(e:MV x y=some d):∃ b,d=.bl b:=by obtain ⟨b,_,rfl⟩:=uR e; exact ⟨_,rfl⟩
theorem aEy{neg:Bool}(x y d:D)(e:oP neg x y=some d):∃ b,d=.bl b:=by
 cases x<;>first | (cases e; done) | skip
 all_goals (cases y<;>first | (cases e; done) | skip)
 all_goals (obtain ⟨b,_,rfl⟩:=uR e; exact ⟨_,rfl⟩)
theorem aEz(x y d:D)(e:W9 x y=some d):∃ b,d=.bl b:=by
 unfold W9 at e;split at e
 .cases e; exact ⟨_,rfl⟩
 .cases e
theorem aFA(ha:dA X a fa)(hb:dA X b fb):BG X (.Compare a [.Lt] [b] pos) (tV (aE ltM fa fb)):=cT (aIV ha hb) (yL pB JE)
theorem aCZ(ha:dA X a fa)(hb:dA X b fb):BG X (.Compare a [.Gt] [b] pos) (tV (aE J8 fa fb)):=cT (aIW ha hb) (yL pB JE)
theorem aFB(ha:dA X a fa)(hb:dA X b fb):BG X (.Compare a [.GtE] [b] pos) (tV (aE geM fa fb)):=cT (aIX ha hb) (yL pB JE)
theorem ZN(ha:dA X a fa)(hb:dA X b fb):BG X (.Compare a [.Eq] [b] pos) (tV (aE wJ fa fb)):=cT (aEO ha hb) (yL tells_eq aEw)
theorem aC0(ha:dA X a fa)(hb:dA X b fb):BG X (.Compare a [.NotEq] [b] pos) (tV (aE MV fa fb)):=cT (aEP ha hb) (yL GD aEx)
theorem MB(ha:dA X a fa)(hb:dA X b fb)(hm:behindInMarks .NotIn b=false:=by with_unfolding_all rfl):BG X (.Compare a [.NotIn] [b] pos) (tV (aE (oP true) fa fb)):=cT (aEQ ha hb hm) (yL GF aEy)
theorem aKW(ha:dA X a fa)(hb:dA X b fb):BG X (.Compare a [.Is] [b] pos) (tV (aE W9 fa fb)):=cT (aER ha hb) (yL GG aEz)
end
section
variable{a b c:Expr}{rest:List Expr}{pos:Pos}{fa fb:EF}{ta tb tc:TF}
theorem GH(ha:BG X a ta):BG X (.UnaryOp .Not a pos) (iZ ta):=cT (aEU ha) λρ Q aKX=>by obtain ⟨b,e,q⟩:=aKX;obtain ⟨c,ec,rfl⟩:=uR e;exact ⟨c,ec,q⟩
theorem aFC(ha:BG X a ta):QT X (.BoolOp .And [a] pos) ta:=aI1 ha
theorem aC1(ha:BG X a ta):QT X (.BoolOp .Or [a] pos) ta:=or1 ha
theorem aFD(ha:BG X a ta)(hb:QT X (.BoolOp .And (b::rest) pos) tb):QT X (.BoolOp .And (a::b::rest) pos) (uY ta tb):=cW (aEV ha hb) λρ Q aKY=>by
 obtain ⟨d,e,q⟩:=aKY;obtain ⟨c,ec,e⟩:=bnd e;refine ⟨c,ec,?_⟩
 cases c with
 | true=>rw [if_pos rfl] at e ⊢; exact ⟨d,e,q⟩
 | false=>rw [if_neg Bool.false_ne_true] at e ⊢; cases e; exact q
theorem aC2(ha:BG X a ta)(hb:QT X (.BoolOp .Or (b::rest) pos) tb):QT X (.BoolOp .Or (a::b::rest) pos) (zF ta tb):=cW (aI3 ha hb) λρ Q aKZ=>by
 obtain ⟨d,e,q⟩:=aKZ;obtain ⟨c,ec,e⟩:=bnd e;refine ⟨c,ec,?_⟩
 cases c with
 | true=>rw [if_pos rfl] at e ⊢; cases e; exact q
 | false=>rw [if_neg Bool.false_ne_true] at e ⊢; exact ⟨d,e,q⟩
theorem OL{op}(ha:dA X a fa):dA X (.BoolOp op [a] pos) fa:=aI7 ha
theorem OM(ha:dA X a fa)(hb:dA X (.BoolOp .And (b::rest) pos) fb):dA X (.BoolOp .And (a::b::rest) pos) (mY fa fb):=cE (aI8 ha hb) λρ Q aK0=>by
 obtain ⟨d,e,q⟩:=aK0;obtain ⟨x,ex,e1⟩:=bnd e;obtain ⟨c,ec,e⟩:=bnd e1
 clear e1
 refine ⟨x,ex,?_⟩;cases x<;>first | cases ec; done | skip
 cases ec
 cases c with
 | true=>rw [if_pos rfl] at e; exact ⟨d,e,q⟩
 | false=>rw [if_neg Bool.false_ne_true] at e; cases e; exact q
theorem or4(ha:dA X a fa)(hb:dA X (.BoolOp .Or (b::rest) pos) fb):dA X (.BoolOp .Or (a::b::rest) pos) (Z8 fa fb):=cE (or3 ha hb) λρ Q aK1=>by
 obtain ⟨d,e,q⟩:=aK1;obtain ⟨x,ex,e1⟩:=bnd e;obtain ⟨c,ec,e⟩:=bnd e1
 clear e1
 refine ⟨x,ex,?_⟩;cases x<;>first | cases ec; done | skip
 cases ec
 cases c with
 | true=>rw [if_pos rfl] at e; cases e; exact q
 | false=>rw [if_neg Bool.false_ne_true] at e; exact ⟨d,e,q⟩
theorem aFE(ha:dA X a fa):dA X (.UnaryOp .Not a pos) (zG fa):=cE (aIb ha) λρ Q aK2=>by
 obtain ⟨d,e,q⟩:=aK2;obtain ⟨x,ex,e⟩:=bnd e;obtain ⟨c,ec,rfl⟩:=uR e;refine ⟨x,ex,?_⟩;cases x<;>first | cases ec; done | skip
 cases ec;exact q
theorem if4(hc:BG X c tc)(ha:dA X a fa)(hb:dA X b fb):dA X (.IfExp c a b pos) (QV tc fa fb):=cE (if3 hc ha hb) λρ Q aK3=>by
 obtain ⟨d,e,q⟩:=aK3;obtain ⟨c,ec,e⟩:=bnd e;refine ⟨c,ec,?_⟩
 cases c with
 | true=>rw [if_pos rfl] at e ⊢; exact ⟨d,e,q⟩
 | false=>rw [if_neg Bool.false_ne_true] at e ⊢; exact ⟨d,e,q⟩
theorem aK4(ha:dA X a fa):dA X (.UnaryOp .USub a pos) (EE fa):=cE (aIg ha) λρ Q aK5=>by
 obtain ⟨d,e,q⟩:=aK5;obtain ⟨x,ex,e⟩:=bnd e;refine ⟨x,ex,?_⟩;cases x<;>first | cases e; done | skip
 cases e;exact q
theorem yM{e:Expr}{f:EF}(h:dA X e f)(he:∀ whole,isTrue e X.env whole=(do let v <- whole; standAt e.pos; holding [v] (truthy v)):=by intro _; rfl):BG X e (tV f) :=
 T9 (S9 h he) λσ H Q aK6=>by
  obtain ⟨S,ρ,Q3,fc,sl,⟨b,hb,q3⟩,k⟩:=aK6;obtain ⟨d0,ed,et⟩:=bnd hb;refine ⟨S,ρ,λd=>d=d0,fc,sl,⟨d0,ed,rfl⟩,λv H1 d s1 d1 q1=>?_⟩;subst q1
  cases d with
  | bl c=>cases et; simp only [Dn] at d1; subst d1; exact ⟨_,rfl,k _ H1 s1 q3⟩
  | lst ds =>
   cases et;simp only [Dn] at d1;obtain ⟨a,xs,rfl,ha,sa,da⟩:=d1;exact ⟨_,.inl ⟨xs,eO.of ha,by rw [<- da.empty]⟩,k _ H1 s1 q3⟩
  | tup ds =>
   cases et;simp only [Dn] at d1;obtain ⟨a,xs,rfl,ha,da⟩:=d1;exact ⟨_,.inr (.inl ⟨xs,(gR.of ha),by rw [<- da.empty]⟩),k _ H1 s1 q3⟩
  | _=>cases et
end
end
section
variable{X:Cx}
theorem aM:BH X [] aC:=cA aIK λ_ _ aK7=>by obtain ⟨_,e,q⟩:=aK7; cases e; exact q
theorem aF{e:Expr}{es:List Expr}{fe:EF}{t:AF}(ha:dA X e fe)(hr:BH X es t)(hs:starEach (e::es) X.env=(false,eval e X.env)::starEach es X.env:=by rfl):BH X (e::es) (aA fe t):=cA (aEN ha hr hs) λρ Q aK8=>by obtain ⟨ds,e,q⟩:=aK8;obtain ⟨d,ed,e⟩:=bnd e;obtain ⟨r,er,e⟩:=bnd e;cases e;exact ⟨d,ed,r,er,q⟩
theorem JF{es:List Expr}{t:AF}{x1}{pos:Pos}(h:BH X es t):dA X (.Tuple es x1 pos) (lA t):=cE (aIO h) λρ Q aK9=>by obtain ⟨d,e,q⟩:=aK9;obtain ⟨ds,ed,e⟩:=bnd e;exact ⟨ds,ed,szl (x:=D.tup ds) e q⟩
theorem pJ{es:List Expr}{t:AF}{pos:Pos}(h:BH X es t):kK X (.List es pos) (eM t):=cF (aIQ h) λρ Q aKa=>by obtain ⟨d,e,q⟩:=aKa;obtain ⟨ds,ed,e⟩:=bnd e;exact ⟨ds,ed,szl (x:=D.lst ds) e q⟩
theorem U6:Tells ixF eE:=λx y d Q e q=>by
 cases x<;>first | (cases e; done) | skip
 all_goals (cases y<;>first | (cases e; done) | skip)
 .have e:vC _ _=some d:=e;show (match vC _ _ with | some d=>Q d | none=>False);rw [e]; exact q
 .have e:vC _ _=some d:=e;show (match vC _ _ with | some d=>Q d | none=>False);rw [e]; exact q
 .obtain ⟨n,e1,rfl⟩:=uR e;have e1:vC _ _=some n:=e1;show (match vC _ _ with | some n=>Q (.int n) | none=>False);rw [e1]; exact q
theorem sP{a b:Expr}{pos:Pos}{fa fb:EF}(ha:dA X a fa)(hb:dA X b fb)(hs:DD b:=by intro _ _; rfl):dA X (.Subscript a b pos) (aE eE fa fb):=cE (ix3 ha hb hs) (kL U6)
theorem ON:Tells aCN wM:=λx y d Q e q=>by
 cases x<;>first | cases e; done | skip
 rename_i ks ds;obtain ⟨k,ek,e⟩:=bnd e;have ek:FZ y=some k:=by cases y<;>first | exact ek | cases ek
 have e:kJ ks ds k=some d:=e
 show (match D.kA ks ds,FZ y with
  | .kA ks ds,some k=>(match kJ ks ds k with | some d=>Q d | none=>False)
  | _,_=>False)
 rw [ek];dsimp only;rw [e]; exact q
theorem aFF{o i:Expr}{pos:Pos}{fo fi:EF}(hu:X.A.units+1<cLine)(ho:dA X o fo)(hi:dA X i fi)(hs:IQ i:=by intro _ _; rfl):dA X (.Subscript o i pos) (aE wM fo fi):=cE (aJl hu ho hi hs) (kL ON)
noncomputable def oB(f:F1)(g:List D->Option D):Prop:=∀ (ds:List D) (d:D) (Q:D->Prop),g ds=some d->Q d->f ds Q
theorem DT{f:F1}{g:List D->Option D}(h:oB f g){t:AF}(ρ:cJ)(Q:D->Prop)(w:wE (cN g t) ρ Q):UJ f (wA t) ρ Q:=by obtain ⟨d,e,q⟩:=w;obtain ⟨ds,ed,e⟩:=bnd e;exact ⟨ds,ed,h ds d Q e q⟩
theorem OO:oB DN cR:=λds d Q e q=>by
 cases ds with
 | nil=>cases e
 | cons a ds =>
  cases a<;>first | (cases e; done) | skip
  all_goals (cases ds<;>first | (cases e; exact q) | (cases e; done))
theorem GI:oB IX cQ:=λds d Q e q=>by
 cases ds with
 | nil=>cases e
 | cons a ds =>
  cases a<;>first | (cases e; done) | skip
  all_goals (cases ds<;>first | (cases e; exact q) | (cases e; done))
theorem iV{p pos:Pos}{e:Expr}{t:AF}(hm:X.mg "len" = none)(ha:BH X [e] t)(hg:Gl X "len" := by rfl)(he:starEach [e] X.env=(false,eval e X.env)::starEach [] X.env:=by rfl):dA X (.Call (.Name "len" p) [e] [] pos) (cN cR t):=cE (aIj hm ha hg he) (DT OO)
theorem kU{p pos:Pos}{e:Expr}{t:AF}(hm:X.mg "tuple" = none)(ha:BH X [e] t)(hg:Gl X "tuple" := by rfl)(he:starEach [e] X.env=(false,eval e X.env)::starEach [] X.env:=by rfl):dA X (.Call (.Name "tuple" p) [e] [] pos) (cN cQ t):=cE (aBs hm PyProof.Rows.boot_tuple ha hg he) (DT GI)
theorem BI:∀ ds:List D,L3.intsOf ds=L4.intsOf ds
 | []=>rfl
 | d::ds=>by
  cases d<;>first | rfl | skip
  show (L3.intsOf ds).map _=(L4.intsOf ds).map _;rw [BI ds]
theorem qM(a:Int):∀ l:List Int,(insI a l).Perm (a::l)
 | []=>.refl _
 | b::l=>by
  unfold insI;split
  .exact .refl _
  .exact ((qM a l).cons b).trans (.swap a b l)
theorem oC:∀ l:List Int,(sortI l).Perm l
 | []=>.refl _
 | a::l=>(qM a (sortI l)).trans ((oC l).cons a)
theorem sD(a:Int):∀ l:List Int,l.Pairwise (· <= ·)->(insI a l).Pairwise (· <= ·)
 | [],_=>by simp [insI]
 | b::l,h=>by
  unfold insI;split
  .rename_i hab;refine List.pairwise_cons.mpr ⟨λc hc=>?_,h⟩;rcases List.mem_cons.mp hc with e | e
   .subst e; exact hab
   .exact Int.le_trans hab ((List.pairwise_cons.mp h).1 c e)
  .rename_i hab;refine List.pairwise_cons.mpr ⟨λc hc=>?_,sD a l (List.pairwise_cons.mp h).2⟩;rcases List.mem_cons.mp ((qM a l).mem_iff.mp hc) with e | e
   .subst e; omega
   .exact (List.pairwise_cons.mp h).1 c e
theorem kW:∀ l:List Int,(sortI l).Pairwise (· <= ·)
 | []=>List.Pairwise.nil
 | a::l=>sD a _ (kW l)
theorem qN:∀ {l m:List Int},l.Perm m->l.Pairwise (· <= ·)->m.Pairwise (· <= ·)->l=m
 | [],m,p,_,_=>by rw [p.nil_eq]
 | a::l,[],p,_,_=>by have:=p.length_eq; simp at this
 | a::l,b::m,p,h1,h2=>by
  have e:a=b:=by
   have m1:=p.mem_iff.mp (mem_cons_self (a:=a) (l:=l));have m2:=p.mem_iff.mpr (mem_cons_self (a:=b) (l:=m));rcases List.mem_cons.mp m1 with e | e
   .exact e
   .rcases List.mem_cons.mp m2 with e2 | e2
    .exact e2.symm
    .have:=(List.pairwise_cons.mp h2).1 a e;have:=(List.pairwise_cons.mp h1).1 b e2;omega
  subst e;rw [qN p.cons_inv (List.pairwise_cons.mp h1).2 (List.pairwise_cons.mp h2).2]
theorem DU:oB UU fQ:=λds d Q e q=>by
 unfold fQ at e;split at e
 .rename_i a;obtain ⟨ns,e1,e⟩:=bnd e;by_cases hl:ns.length<64
  .rw [if_pos hl] at e;cases e;show (match L3.intsOf a with | some ns=>ns.length<64 /\ ∀ ns':List Int,ns'.Perm ns->ns'.Pairwise (· <= ·)->Q (.lst (ns'.map D.int)) | none=>False);rw [BI,e1];refine ⟨hl,λns' p s=>?_⟩;rw [qN (p.trans (oC ns).symm) s (kW ns)];exact q
  .rw [if_neg hl] at e; cases e
 .cases e
theorem MC{p pos:Pos}{e:Expr}{t:AF}(hm:X.mg "sorted" = none)(ha:BH X [e] t)(hg:Gl X "sorted" := by rfl)(he:starEach [e] X.env=(false,eval e X.env)::starEach [] X.env:=by rfl):kK X (.Call (.Name "sorted" p) [e] [] pos) (cN fQ t):=cF (ZF hm ha hg he) (DT DU)
theorem OP:oB sumF B2:=λds d Q e q=>by
 unfold B2 at e;split at e
 .rename_i a;obtain ⟨ns,e1,rfl⟩:=uR e;have:=ints_of e1;subst this;rw [OH]; exact q
 .cases e
theorem aKb{p pos:Pos}{e:Expr}{t:AF}(hc:X.calm=true)(hm:X.mg "sum" = none)(ha:BH X [e] t)(hg:Gl X "sum" := by rfl)(he:starEach [e] X.env=(false,eval e X.env)::starEach [] X.env:=by rfl):dA X (.Call (.Name "sum" p) [e] [] pos) (cN B2 t):=cE (aKB hc hm ha hg he) (DT OP)
theorem aC3(T:String)(d:D):HB T d=isT T d:=by cases d<;>rfl
theorem yN{T:String}{x:Str}{e:Expr}{f:EF}{p p2 pos:Pos}(hT:ED T)(hm:X.mg "isinstance" = none)(hmT:X.mg x=none)(hv:bootBuiltins x=some (.type T))(he:dA X e f)(hg:Gl X "isinstance" := by rfl)(hgT:Gl X x:=by rfl)(hn:x ≠ "__name__" := by decide)(hdb:(x == ("__debug__" : Str))=false:=by decide)
  (hs:starEach [e,.Name x p2] X.env=(false,eval e X.env)::starEach [.Name x p2] X.env:=by rfl) (hs2:starEach [.Name x p2] X.env=(false,eval (.Name x p2) X.env)::starEach [] X.env:=by rfl) (hpl:(backTo pos (starEach [.Name x p2] X.env)).any (·.1)=false:=by rfl) :
  dA X (.Call (.Name "isinstance" p) [e,.Name x p2] [] pos) (jO T f):=cE (aJg hT hm hmT hv he hg hgT hn hdb hs hs2 hpl) λρ Q aKc=>by
 obtain ⟨d,e,q⟩:=aKc;obtain ⟨x,ex,e⟩:=bnd e;by_cases hx:HC x=true
 .rw [if_pos hx] at e;cases e;exact ⟨x,ex,(by cases x<;>first | trivial | cases hx),by show Q (.bl (isT T x)); rw [<- aC3]; exact q⟩
 .rw [if_neg hx] at e; cases e
noncomputable def dR(K:PySem.W.Frag)(R:gD):Sp:=sp3 K λds Q=>∃ d,R ds=.ok d/\Q d
theorem bR{k:Nat}{f:Addr}{fd:FuncData}{ps:List Str}{R:gD}{x:Str}{p pos:Pos}{e:Expr}{es:List Expr}{t:AF}(F:aQ X.prog X.w X.K X.mg X.base dE k f fd ps (dR X.K R))(hr:kB k X.A)(hm:X.mg x=some (.ref f))(hk:PySem.W.keepIn X.K (.ref f)=true)(hb:Binds X.K fd ps [])
  (ha:BH X (e::es) t) (hg:Gl X x:=by rfl) (hdb:(x == ("__debug__" : Str))=false:=by decide) (he:starEach (e::es) X.env=(false,eval e X.env)::starEach es X.env:=by rfl) (hpl:(backTo pos (starEach es X.env)).any (·.1)=false:=by rfl) :
  dA X (.Call (.Name x p) (e::es) [] pos) (aI R t):=cE (aEX F hr hm hk hb ha hg hdb he hpl) λρ Q aKd=>by
 obtain ⟨d,e,q⟩:=aKd;obtain ⟨ds,ed,e⟩:=bnd e;refine ⟨ds,ed,d,?_,q⟩
 cases h:R ds with
 | ok d'=>rw [h] at e; cases e; rfl
 | no=>rw [h] at e; cases e
 | ex c=>rw [h] at e; cases e
theorem qO{a:Expr}{t:AF}{p pos p2 pos2:Pos}(hc:X.calm=true)(hm:X.mg "list" = none)(hmr:X.mg "range" = none)(ha:BH X [a] t)(hg:Gl X "list" := by rfl)(hgr:Gl X "range" := by rfl)(hs:starEach [a] X.env=[(false,eval a X.env)]:=by rfl)
  (he:starEach [.Call (.Name "range" p2) [a] [] pos2] X.env=(false,eval (.Call (.Name "range" p2) [a] [] pos2) X.env)::starEach [] X.env:=by rfl) :
  kK X (.Call (.Name "list" p) [.Call (.Name "range" p2) [a] [] pos2] [] pos) (pZ t):=cF (IZ hc hm hmr ha hg hgr hs he) λρ Q aKe=>by
 obtain ⟨d,e,q⟩:=aKe;obtain ⟨ds,ed,e⟩:=bnd e;refine ⟨ds,ed,?_⟩;split at e
 .rename_i j;by_cases h:j.natAbs<=16777216
  .rw [if_pos h] at e; cases e; exact ⟨⟨by omega,by omega⟩,q⟩
  .rw [if_neg h] at e; cases e
 .cases e
section
variable{tg:Expr}
theorem kM{l:Expr}{f:EF}(h:dA X l f):PI4 X tg l (cK f):=cI (aE6 h) λρ Q aKf=>by
 obtain ⟨ds,e,q⟩:=aKf;obtain ⟨d,ed,e⟩:=bnd e;refine ⟨d,ed,?_⟩;cases d<;>first | cases e; done | skip
 all_goals (cases e; exact q)
theorem aC4{fa:EF}{ρ:cJ}{as:List D}(h:aA fa aC ρ=some as):∃ a,fa ρ=some a/\as=[a]:=by obtain ⟨a,ea,e⟩:=bnd h;cases e;exact ⟨a,ea,rfl⟩
theorem fT{a:Expr}{fa:EF}{p pos:Pos}(hm:X.mg "range" = none)(ha:dA X a fa)(hg:Gl X "range" := by rfl)(hs:starEach [a] X.env=[(false,eval a X.env)]:=by rfl):PI4 X tg (.Call (.Name "range" p) [a] [] pos) (bM (aA fa aC)):=cI (aCH hm (aF ha aM hs) hg hs) λρ Q aKg=>by
 obtain ⟨ds,e,q⟩:=aKg;obtain ⟨as,ea,e⟩:=bnd e;refine ⟨as,ea,?_⟩;obtain ⟨a,ha',rfl⟩:=aC4 ea
 clear ea ha'
 cases a<;>first | cases e; done | skip
 rename_i j;by_cases h:j.natAbs<4611686018427387904
 .have e:(if j.natAbs<4611686018427387904 then some ((aW 0 j.toNat).map D.int) else none)=some ds:=e;rw [if_pos h] at e; cases e; exact ⟨⟨by omega,by omega⟩,q⟩
 .have e:(if j.natAbs<4611686018427387904 then some ((aW 0 j.toNat).map D.int) else none)=some ds:=e;rw [if_neg h] at e; cases e
end
theorem qP{a:Expr}{t:AF}{es:List Expr}{kk:Nat}{tp p pos:Pos}(hm:X.mg "enumerate" = none)(ha:BH X [a] t)(hg:Gl X "enumerate" := by rfl)(hs:starEach [a] X.env=[(false,eval a X.env)]:=by rfl):PI4 X (.Tuple es kk tp) (.Call (.Name "enumerate" p) [a] [] pos) (mV t):=cI (JD hm ha hg hs) λρ Q aKh=>by obtain ⟨ds,e,q⟩:=aKh;obtain ⟨as,ea,e⟩:=bnd e;refine ⟨as,ea,?_⟩;unfold KA at e;split at e<;>first | (cases e; exact q) | cases e
theorem yO{g:HE}{t:TF}{e:EF}{ρ:cJ}:∀ (ds acc ys:List D) (Q:D->Prop),jP g t e ρ ds=some ys->acc.length+ds.length<=sizeLine->Q (.lst (acc++ys))->sA (wGE g) (wT t) (wE e) ρ ds acc Q
 | [],acc,ys,Q,h,_,q=>by cases h;rw [sA];simpa using q
 | d::ds,acc,ys,Q,h,hl,q=>by
  rw [sA];obtain ⟨ρ1,e1,h⟩:=bnd h;obtain ⟨b,e2,h⟩:=bnd h;simp only [length_cons] at hl;refine ⟨ρ1,e1,b,e2,?_⟩
  cases b with
  | true =>
   rw [if_pos rfl] at h ⊢;obtain ⟨y,e3,h⟩:=bnd h;obtain ⟨zs,e4,rfl⟩:=uR h;exact ⟨y,e3,by omega,yO ds (acc++[y]) zs Q e4 (by simp; omega) (by simpa using q)⟩
  | false =>
   rw [if_neg Bool.false_ne_true] at h ⊢;exact yO ds acc ys Q h (by omega) q
theorem JG{nl:Nat}{fr:List Nat}{it:AF}{g:HE}{t:TF}{e:EF}(ρ:cJ)(Q:D->Prop)(w:wE (bQ nl fr it g t e) ρ Q):FY nl fr (wI it) (wGE g) (wT t) (wE e) ρ Q:=by
 obtain ⟨d,h,q⟩:=w;obtain ⟨ds,e1,h⟩:=bnd h;refine ⟨ds,e1,?_⟩;by_cases hl:ds.length<=pE
 .rw [if_pos hl] at h;obtain ⟨ys,e2,rfl⟩:=uR h;exact yO ds [] ys Q e2 (by rw [sizeLine_eq,length_nil,Nat.zero_add]; exact hl) (by simpa using q)
 .rw [if_neg hl] at h; cases h
noncomputable abbrev U7(X:Cx)(nl:Nat)(tg:Expr)(g:HE):Prop:=PG4 X nl tg (wGE g)
noncomputable abbrev U8(X:Cx)(ifs:List Expr)(t:TF):Prop:=N8 X ifs (wT t)
theorem cG{nl:Nat}{tg:Expr}{g g':GE}(h:PG4 X nl tg g)(c:∀ d ρ Q,g' d ρ Q->g d ρ Q):PG4 X nl tg g':=N6 h λ_ _ _ _ aKi=>by obtain ⟨S,ρ,d,Q3,hl,fc,sl,dn,hg,k⟩:=aKi; exact ⟨S,ρ,d,Q3,hl,fc,sl,dn,c d ρ Q3 hg,k⟩
theorem gK{nl i:Nat}{x:Str}{pos:Pos}(nd:X.N.Nodup)(hil:i<nl)(hi:X.N[i]? = some x:=by rfl)(hx:Loc X.env.scope x:=by first | exact .inl rfl | exact .inr rfl)(hfx:X.fn x=true\/X.env.scope.names.lookup x=some .local:=by first | exact .inr rfl | exact .inl rfl):U7 X nl (.Name x pos) (g1 i):=cG (aEd nd hil hi hx hfx) λd ρ Q aKj=>by obtain ⟨ρ',e,q⟩:=aKj; cases e; exact q
theorem MD{d:D}{p:D×D}(h:AD d=some p):d=.tup [p.1,p.2]:=by
 cases d<;>first | (cases h; done) | skip
 rename_i l
 cases l with
 | nil=>cases h
 | cons a l =>
  cases l with
  | nil=>cases h
  | cons b l =>
   cases l with
   | nil=>cases h; rfl
   | cons c l=>cases h
theorem JH{nl i j:Nat}{x y:Str}{kk:Nat}{pos px py:Pos}(hc:X.calm=true)(nd:X.N.Nodup)(hil:i<nl)(hjl:j<nl)(hi:X.N[i]? = some x:=by rfl)(hj:X.N[j]? = some y:=by rfl)(hx:Loc X.env.scope x:=by first | exact .inl rfl | exact .inr rfl)(hfx:X.fn x=true\/X.env.scope.names.lookup x=some .local:=by first | exact .inr rfl | exact .inl rfl)(hy:Loc X.env.scope y:=by first | exact .inl rfl | exact .inr rfl)(hfy:X.fn y=true\/X.env.scope.names.lookup y=some .local:=by first | exact .inr rfl | exact .inl rfl)
  (hn:(assignEach [.Name x px,.Name y py] X.env).length=2:=by rfl) (hst:(assignEach [.Name x px,.Name y py] X.env).findIdx? (·.1)=none:=by rfl)
  (hs1:(assignEach [.Name x px,.Name y py] X.env).map (·.2)=assign (.Name x px) X.env::(assignEach [.Name y py] X.env).map (·.2):=by rfl) (hs2:(assignEach [.Name y py] X.env).map (·.2)=assign (.Name y py) X.env::(assignEach [] X.env).map (·.2):=by rfl) :
  U7 X nl (.Tuple [.Name x px,.Name y py] kk pos) (g2 i j):=cG (aEe hc nd hil hjl hi hj hx hfx hy hfy hn hst hs1 hs2) λd ρ Q aKk=>by
 obtain ⟨ρ',e,q⟩:=aKk;obtain ⟨p,ep,rfl⟩:=uR e;rw [MD ep];exact q
theorem lJ:U8 X [] cL:=λpins s σ H Q I aKl=>by obtain ⟨S,ρ,Q3,fc,sl,⟨_,e,q⟩,k⟩:=aKl; cases e; exact aJa pins s σ H Q I ⟨S,ρ,Q3,fc,sl,q,k⟩
theorem DW{c:Expr}{t:TF}(h:BG X c t):U8 X [c] t:=aEg h
section
variable{ls fs:List Str}{fr:List Nat}{sc:Scope}{tg iter elt:Expr}{ifs:List Expr}{pos:Pos}{it:AF}{g:HE}{t:TF}{e:EF}
theorem kN(hc:X.calm=true)(hi:PI4 X tg iter it)
  (hg:∀ cl C pn ex s H,(blk X (ls++fs) sc cl C pn ex s H).N.Nodup->U7 (blk X (ls++fs) sc cl C pn ex s H) ls.length tg g) (hf:∀ cl C pn ex s H,U8 (blk X (ls++fs) sc cl C pn ex s H) ifs t) (he:∀ cl C pn ex s H,dA (blk X (ls++fs) sc cl C pn ex s H) elt e)
  (B:chk X.env.scope.names sc X.N ls fs fr=true:=by rfl) (hs:∀ x,foldedSetIterable iter X.env x=pure x:=by intro _; rfl):kK X (.ListComp elt [⟨tg,iter,ifs,0⟩] sc pos) (bQ ls.length fr it g t e):=cF (aEh hc hi hg hf he B hs) JG
variable{i:Nat}{x:Str}{spos pos':Pos}
theorem BJ(nd:X.N.Nodup)(hc:X.calm=true)(hi:PI4 X tg iter it)
  (hg:∀ cl C pn ex s H,(blk X (ls++fs) sc cl C pn ex s H).N.Nodup->U7 (blk X (ls++fs) sc cl C pn ex s H) ls.length tg g) (hf:∀ cl C pn ex s H,U8 (blk X (ls++fs) sc cl C pn ex s H) ifs t) (he:∀ cl C pn ex s H,dA (blk X (ls++fs) sc cl C pn ex s H) elt e)
  (hx0:X.N[i]? = some x:=by rfl) (hx:X.env.scope.names.lookup x=some .local:=by rfl) (hsw:swapsWith (.ListComp elt [⟨tg,iter,ifs,0⟩] sc pos) (some (.Name x pos')) spos.line X.env=pure true:=by rfl)
  (B:chk X.env.scope.names sc X.N ls fs fr=true:=by rfl) (hs:∀ x,foldedSetIterable iter X.env x=pure x:=by intro _; rfl):vW X (.Assign [.Name x pos'] (.ListComp elt [⟨tg,iter,ifs,0⟩] sc pos) spos) (aT i (bQ ls.length fr it g t e)) :=
 cS (N9 nd hc hi hg hf he hx0 hx hsw B hs) λE ρ w=>by
  unfold wS aT at w;unfold aBw
  cases h:bQ ls.length fr it g t e (kC ρ) with
  | none=>rw [h] at w; exact w.elim
  | some d=>rw [h] at w; exact JG _ _ ⟨d,h,w⟩
end
end
section
variable{X:Cx}
theorem cO{e:Option Expr}{t t':WO}(h:PO3 X e t)(c:∀ ρ Q,t' ρ Q->t ρ Q):PO3 X e t':=λpins s σ H Q I aKm=>by obtain ⟨S,ρ,Q3,fc,sl,ht,k⟩:=aKm; exact h pins s σ H Q I ⟨S,ρ,Q3,fc,sl,c ρ Q3 ht,k⟩
theorem no4:PO4 X none oNo:=cO aKC λ_ _ aKn=>by obtain ⟨_,e,q⟩:=aKn; cases e; exact q
theorem po4{e:Expr}{f:EF}(h:dA X e f):PO4 X (some e) (oE f):=cO (po3 h) λρ Q aKo=>by
 obtain ⟨o,e,q⟩:=aKo;obtain ⟨d,ed,e⟩:=bnd e;obtain ⟨i,ei,rfl⟩:=uR e;refine ⟨d,ed,?_⟩;cases d<;>first | cases ei; done | skip
 cases ei; exact q
theorem sl4{e:Expr}{lo hi:Option Expr}{p2 pos:Pos}{f:EF}{fl fh:OF}(he:dA X e f)(hl:PO4 X lo fl)(hh:PO4 X hi fh):dA X (.Subscript e (.Slice lo hi none p2) pos) (eSl f fl fh):=cE (sl3 he hl hh) λρ Q aKq=>by
 obtain ⟨r,e,q⟩:=aKq;obtain ⟨d,ed,e⟩:=bnd e;obtain ⟨l,el,e⟩:=bnd e;obtain ⟨h,eh,e⟩:=bnd e;refine ⟨d,ed,l,el,h,eh,?_⟩;cases d<;>first | cases e; done | skip
 all_goals (cases e; exact q)
theorem px4{e:Expr}{f:EF}(h:dA X e f):MA X e (uF f):=cX (px3 h) λρ Q aFG=>by
 obtain ⟨p,e,q⟩:=aFG;obtain ⟨d,ed,e⟩:=bnd e;refine ⟨d,ed,?_⟩;by_cases hi:d.AB=true
 .rw [if_pos hi] at e; cases e; exact ⟨hi,q⟩
 .rw [if_neg hi] at e; cases e
theorem GJ{e:Expr}{f:EF}(h:dA X e f):MA X e (bX f):=cX (aJC h) λρ Q aFH=>by obtain ⟨p,e,q⟩:=aFH;obtain ⟨d,ed,e⟩:=bnd e;cases e;exact ⟨d,ed,q⟩
theorem DX{o:Option Sv}{ds:List D}(h:lY o=some ds):o=some (.ow (.lst ds)):=by
 unfold lY at h;split at h
 .cases h; rfl
 .cases h
noncomputable def DY(f:List D->D->(List D->D->Prop)->Prop)(m:List D->D->Option (List D×D)):Prop:=∀ ds d q (Q:List D->D->Prop),m ds d=some q->Q q.1 q.2->f ds d Q
theorem aC5{i:Nat}{f:List D->D->(List D->D->Prop)->Prop}{m:List D->D->Option (List D×D)}(h:DY f m){x:XF}(ρ:aS)(Q:aS->D->Prop)(w:wX (p4 i m x) ρ Q):wM1 i f (wX x) ρ Q:=by obtain ⟨r,e,q⟩:=w;obtain ⟨ds0,e0,e⟩:=bnd e;obtain ⟨p,ep,e⟩:=bnd e;obtain ⟨ds,e1,e⟩:=bnd e;obtain ⟨z,ez,rfl⟩:=uR e;have o0:=DX e0;have o1:=DX e1;refine ⟨by rw [o0]; trivial,p,ep,?_⟩;show (match p.1[i]? with | some (.ow (.lst ds))=>f ds p.2 λds' r=>Q (p.1.set i (.ow (.lst ds'))) r | _=>False);rw [o1];exact h ds p.2 z _ ez q
theorem OQ:DY aBy jQ:=λds d q Q e k=>by
 unfold jQ at e;by_cases h:ds.length<pE
 .rw [if_pos h] at e; cases e; exact ⟨by rw [sizeLine_eq]; exact h,k⟩
 .rw [if_neg h] at e; cases e
theorem OR:DY aCA XD:=λds d q Q e k=>by
 cases d<;>first | cases e; done | skip
 rename_i i;have e:(if i.natAbs<9223372036854775808 then (MW ds.length i).bind λj=>(ds[j]?).map λd=>(ds.eraseIdx j,d) else none)=some q:=e;by_cases h:i.natAbs<9223372036854775808
 .rw [if_pos h] at e;obtain ⟨j,ej,e⟩:=bnd e;obtain ⟨d,ed,rfl⟩:=uR e;have ej:NT ds.length i=some j:=ej;refine ⟨⟨by omega,by omega⟩,?_⟩;show (match NT ds.length i with | some j=>(match ds[j]? with | some d=>Q (ds.eraseIdx j) d | none=>False) | none=>False);rw [ej];dsimp only;rw [ed];exact k
 .rw [if_neg h] at e; cases e
theorem OS:DY aCQ MZ:=λds d q Q e k=>by
 cases d<;>first | cases e; done | skip
 rename_i es;have e:(if ds.length+es.length<=pE then some (ds++es,D.non) else none)=some q:=e;by_cases h:ds.length+es.length<=pE
 .rw [if_pos h] at e; cases e; exact ⟨by rw [sizeLine_eq]; exact h,k⟩
 .rw [if_neg h] at e; cases e
section
variable{i:Nat}{x:Str}{e:Expr}{p apos cpos:Pos}{f:XF}
theorem ZO(he:MA X e f)(hN:X.N[i]? = some x:=by rfl)(hv:AZ X.env.scope x:=by first | exact Or.inl rfl | exact Or.inr (Or.inl rfl) | exact Or.inr (Or.inr rfl))(hd:(x == ("__debug__" : Str))=false:=by decide)(hcd:(x == ("__classdict__" : Str))=false:=by decide)
  (hbase:attributeBase (.Name x p) "append" X.env (eval (.Name x p) X.env)=eval (.Name x p) X.env:=by rfl)
  (hfew:((backTo cpos (starEach [e] X.env)).all (λx=>!x.1)&&(backToKw cpos (keywordEach [] X.env)).all (λx=>x.1.isSome)
   && decide ([e].length+([]:List Keyword).length+(if ([]:List Keyword).isEmpty then 0 else 1)<30))=true:=by rfl)
  (hline:(apos.endLine == cpos.line)=true:=by rfl) (hs:starEach [e] X.env=(false,eval e X.env)::starEach [] X.env:=by rfl) :
  MA X (.Call (.Attribute (.Name x p) "append" apos) [e] [] cpos) (p4 i jQ f):=cX (aJG he hN hv hd hcd hbase hfew hline hs) (aC5 OQ)
theorem aKr(he:MA X e f)(hN:X.N[i]? = some x:=by rfl)(hv:AZ X.env.scope x:=by first | exact Or.inl rfl | exact Or.inr (Or.inl rfl) | exact Or.inr (Or.inr rfl))(hd:(x == ("__debug__" : Str))=false:=by decide)(hcd:(x == ("__classdict__" : Str))=false:=by decide)
  (hbase:attributeBase (.Name x p) "pop" X.env (eval (.Name x p) X.env)=eval (.Name x p) X.env:=by rfl)
  (hfew:((backTo cpos (starEach [e] X.env)).all (λx=>!x.1)&&(backToKw cpos (keywordEach [] X.env)).all (λx=>x.1.isSome)
   && decide ([e].length+([]:List Keyword).length+(if ([]:List Keyword).isEmpty then 0 else 1)<30))=true:=by rfl)
  (hline:(apos.endLine == cpos.line)=true:=by rfl) (hs:starEach [e] X.env=(false,eval e X.env)::starEach [] X.env:=by rfl) :
  MA X (.Call (.Attribute (.Name x p) "pop" apos) [e] [] cpos) (p4 i XD f):=cX (aJH he hN hv hd hcd hbase hfew hline hs) (aC5 OR)
theorem ZP(he:MA X e f)(hN:X.N[i]? = some x:=by rfl)(hv:AZ X.env.scope x:=by first | exact Or.inl rfl | exact Or.inr (Or.inl rfl) | exact Or.inr (Or.inr rfl))(hd:(x == ("__debug__" : Str))=false:=by decide)(hcd:(x == ("__classdict__" : Str))=false:=by decide)
  (hbase:attributeBase (.Name x p) "extend" X.env (eval (.Name x p) X.env)=eval (.Name x p) X.env:=by rfl)
  (hfew:((backTo cpos (starEach [e] X.env)).all (λx=>!x.1)&&(backToKw cpos (keywordEach [] X.env)).all (λx=>x.1.isSome)
   && decide ([e].length+([]:List Keyword).length+(if ([]:List Keyword).isEmpty then 0 else 1)<30))=true:=by rfl)
  (hline:(apos.endLine == cpos.line)=true:=by rfl) (hs:starEach [e] X.env=(false,eval e X.env)::starEach [] X.env:=by rfl) :
  MA X (.Call (.Attribute (.Name x p) "extend" apos) [e] [] cpos) (p4 i MZ f):=cX (ZG he hN hv hd hcd hbase hfew hline hs) (aC5 OS)
end
theorem nA:DR X [] eP:=cSs aIl λ_ _ w=>w
theorem aFI{f g:SF}(E:DE)(ρ:aS)(w:wS (aJ f g) E ρ):aBv (wS f) (wS g) E ρ:=by
 unfold wS aJ at w;unfold aBv wS
 cases h:f ρ with
 | nx ρ'=>rw [h] at w; exact w
 | rt d=>rw [h] at w; exact w
 | no=>rw [h] at w; exact w
 | ex c=>rw [h] at w; exact w
theorem bP{st:Stmt}{rest:List Stmt}{f g:SF}(h1:vW X st f)(h2:DR X rest g):DR X (st::rest) (aJ f g):=cSs (aIn h1 h2) aFI
theorem aY{st:Stmt}{f:SF}(h1:vW X st f):DR X [st] f:=aEZ h1
theorem eK{e:Expr}{f:EF}{pos:Pos}(h:dA X e f):vW X (.Return (some e) pos) (bF f):=cS (aIq h) λE ρ w=>by
 unfold wS bF at w
 cases h:f (bU ρ) with
 | none=>rw [h] at w; exact w.elim
 | some d=>rw [h] at w; exact ⟨d,h,w⟩
theorem mQ{c:Expr}{a b:List Stmt}{pos:Pos}{t:TF}{f g:SF}(hc:BG X c t)(ha:DR X a f)(hb:DR X b g):vW X (.If c a b pos) (i6 t f g):=cS (aIt hc ha hb) λE ρ w=>by
 unfold wS i6 at w
 cases h:t (bU ρ) with
 | none=>rw [h] at w; exact w.elim
 | some c =>
  rw [h] at w;refine ⟨c,h,?_⟩
  cases c with
  | true=>rw [if_pos rfl]; exact w
  | false=>rw [if_neg Bool.false_ne_true]; exact w
section
variable{i:Nat}{x:Str}{e:Expr}{f:EF}{pos pos':Pos}
theorem eT(hN:X.N.Nodup)(he:dA X e f)(hi:X.N[i]? = some x:=by rfl)(hx:Loc X.env.scope x:=by first | exact .inl rfl | exact .inr rfl)(hs:swapsWith e (some (.Name x pos')) pos.line X.env=pure false:=by rfl)(hf:X.fn x=true\/X.env.scope.names.lookup x=some .local:=by first | exact .inl rfl | exact .inr rfl) :
  vW X (.Assign [.Name x pos'] e pos) (aT i f):=cS (aIw hN he hi hx hs hf) λE ρ w=>by
 unfold wS aT at w
 cases h:f (kC ρ) with
 | none=>rw [h] at w; exact w.elim
 | some d=>rw [h] at w; exact ⟨d,h,w⟩
theorem GK(hN:X.N.Nodup)(he:kK X e f)(hi:X.N[i]? = some x:=by rfl)(hx:Loc X.env.scope x:=by first | exact .inl rfl | exact .inr rfl)(hs:swapsWith e (some (.Name x pos')) pos.line X.env=pure false:=by rfl)(hf:X.fn x=true\/X.env.scope.names.lookup x=some .local:=by first | exact .inl rfl | exact .inr rfl) :
  vW X (.Assign [.Name x pos'] e pos) (iT i f):=cS (aIy hN he hi hx hs hf) λE ρ w=>by
 unfold wS iT at w
 cases h:f (kC ρ) with
 | none=>rw [h] at w; exact w.elim
 | some d=>rw [h] at w; exact ⟨d,h,w⟩
theorem aFJ(hN:X.N.Nodup)(he:kK X e f)(hi:X.N[i]? = some x:=by rfl)(hx:Loc X.env.scope x:=by first | exact .inl rfl | exact .inr rfl)(hs:swapsWith e (some (.Name x pos')) pos.line X.env=pure false:=by rfl)(hf:X.fn x=true\/X.env.scope.names.lookup x=some .local:=by first | exact .inl rfl | exact .inr rfl) :
  vW X (.Assign [.Name x pos'] e pos) (mW i f):=cS (aEn hN he hi hx hs hf) λE ρ w=>by
 unfold wS mW at w
 cases h:f (bU ρ) with
 | none=>rw [h] at w; exact w.elim
 | some d =>
  rw [h] at w;dsimp only at w;by_cases hl:p5 d=true
  .rw [if_pos hl] at w;refine ⟨d,h,?_,w⟩;cases d<;>first | exact hl | cases hl
  .rw [if_neg hl] at w; exact w.elim
theorem aFK{f:XF}(hN:X.N.Nodup)(he:MA X e f)(hi:X.N[i]? = some x:=by rfl)(hx:Loc X.env.scope x:=by first | exact .inl rfl | exact .inr rfl)(hs:swapsWith e (some (.Name x pos')) pos.line X.env=pure false:=by rfl)(hf:X.fn x=true\/X.env.scope.names.lookup x=some .local:=by first | exact .inl rfl | exact .inr rfl) :
  vW X (.Assign [.Name x pos'] e pos) (pR i f):=cS (aE2 hN he hi hx hs hf) λE ρ w=>by
 unfold wS pR at w
 cases h:f ρ with
 | none=>rw [h] at w; exact w.elim
 | some d=>rw [h] at w; exact ⟨d,h,w⟩
theorem U9{p:Pos}(hN:X.N.Nodup)(hi:X.N[i]? = some x:=by rfl)(hx:Loc X.env.scope x:=by first | exact .inl rfl | exact .inr rfl)(hs:swapsWith (.Dict [] [] p) (some (.Name x pos')) pos.line X.env=pure false:=by rfl)(hf:X.fn x=true\/X.env.scope.names.lookup x=some .local:=by first | exact .inl rfl | exact .inr rfl) :
  vW X (.Assign [.Name x pos'] (.Dict [] [] p) pos) (EI i):=cS (UX hN hi hx hs hf) λE ρ w=>w
end
theorem BK{e:Expr}{f:XF}{pos:Pos}(he:MA X e f)(hs:swapsWith e none pos.line X.env=pure false:=by rfl):vW X (.Expr e pos) (sX f):=cS (aE4 he hs) λE ρ w=>by
 unfold wS sX at w
 cases h:f ρ with
 | none=>rw [h] at w; exact w.elim
 | some d=>rw [h] at w; exact ⟨d,h,w⟩
theorem aFL{i:Nat}{x:Str}{e k:Expr}{f:XF}{fk:EF}{pos pos' p:Pos}(he:MA X e f)(hk:dA X k fk)
  (hN:X.N[i]? = some x:=by rfl) (hv:AZ X.env.scope x:=by first | exact Or.inl rfl | exact Or.inr (Or.inl rfl) | exact Or.inr (Or.inr rfl)) (hd:(x == ("__debug__" : Str))=false:=by decide) (hcd:(x == ("__classdict__" : Str))=false:=by decide)
  (ha:∀ v,assign (.Subscript (.Name x p) k pos') X.env v=(do
   let ov <- holding [v] (eval (.Name x p) X.env)
   let iv <- holding [v,ov] (eval k X.env)
   standAt pos'
   holding [v,ov,iv] (setItem ov iv v)
   release [v,ov,iv] []):=by intro _; rfl)
  (hs:swapsWithSole [.Subscript (.Name x p) k pos'] e pos.line X.env=pure false:=by rfl) (hw:swappedStores [.Subscript (.Name x p) k pos'] e X.env=pure none:=by rfl)
  (h1:(assignEach [.Subscript (.Name x p) k pos'] X.env).map (·.2)=[assign (.Subscript (.Name x p) k pos') X.env]:=by rfl) :
  vW X (.Assign [.Subscript (.Name x p) k pos'] e pos) (B3 i f fk):=cS (put3 he hk hN hv hd hcd ha hs hw h1) λE ρ w=>by
 unfold wS B3 at w
 cases h:((f ρ).bind λp=>(lY p.1[i]?).bind λds=>(fk (bU p.1)).bind λkd=>(asInt kd).bind λkk=>(MW ds.length kk).map λj=>p.1.set i (.ow (.lst (ds.set j p.2)))) with
 | none=>rw [h] at w; exact w.elim
 | some ρ' =>
  rw [h] at w;obtain ⟨q,eq,h⟩:=bnd h;obtain ⟨ds,ed,h⟩:=bnd h;obtain ⟨kd,ek,h⟩:=bnd h;obtain ⟨kk,e2,h⟩:=bnd h;obtain ⟨j,ej,rfl⟩:=uR h;have o:=DX ed;refine ⟨q,eq,by unfold aCC; rw [o]; trivial,kd,ek,?_⟩;cases kd<;>first | cases e2; done | skip
  cases e2;have ej:NT ds.length kk=some j:=ej
  show (match q.1[i]?,D.int kk with
   | some (.ow (.lst ds)),.int k=>(match NT ds.length k with | some j=>E.nx (q.1.set i (.ow (.lst (ds.set j q.2)))) | none=>False)
   | _,_=>False)
  rw [o];dsimp only;rw [ej];exact w
theorem OT{o:Option Sv}{p:List (Sum Int Str)×List D}(h:wQ o=some p):o=some (.ow (.kA p.1 p.2)):=by
 unfold wQ at h;split at h
 .cases h; rfl
 .cases h
theorem aFM{i:Nat}{x:Str}{e k:Expr}{f:XF}{fk:EF}{pos pos' p:Pos}(hu:X.A.units+1<cLine)(he:MA X e f)(hk:dA X k fk)
  (hN:X.N[i]? = some x:=by rfl) (hv:AZ X.env.scope x:=by first | exact Or.inl rfl | exact Or.inr (Or.inl rfl) | exact Or.inr (Or.inr rfl)) (hd:(x == ("__debug__" : Str))=false:=by decide) (hcd:(x == ("__classdict__" : Str))=false:=by decide)
  (hs:swapsWith e (some (.Subscript (.Name x p) k pos')) pos.line X.env=pure false:=by rfl) :
  vW X (.Assign [.Subscript (.Name x p) k pos'] e pos) (KC i f fk):=cS (aEm hu he hk hN hv hd hcd hs) λE ρ w=>by
 unfold wS KC at w;cases h:((f ρ).bind λp=>(wQ p.1[i]?).bind λkd=>(fk (bU p.1)).bind λkv=>(wL kv).bind λkk =>
  if (kD kd.1 kd.2 kk).isNone=true/\kd.2.length<pE then some (p.1.set i (.ow (.kA (kd.1++[kk]) (kd.2++[p.2])))) else none) with
 | none=>rw [h] at w; exact w.elim
 | some ρ' =>
  rw [h] at w;obtain ⟨q,eq,h⟩:=bnd h;obtain ⟨kd,ed,h⟩:=bnd h;obtain ⟨kv,ek,h⟩:=bnd h;obtain ⟨kk,e2,h⟩:=bnd h;have o:=OT ed;by_cases hc:(kD kd.1 kd.2 kk).isNone=true/\kd.2.length<pE
  .rw [if_pos hc] at h;cases h;refine ⟨q,eq,by rw [o]; trivial,kv,ek,?_⟩;have e3:FZ kv=some kk:=by cases kv<;>first | exact e2 | cases e2
   show (match q.1[i]?,FZ kv with
    | some (.ow (.kA ks ds)),some k=>(kJ ks ds k=none/\ds.length<sizeLine)/\E.nx (q.1.set i (.ow (.kA (ks++[k]) (ds++[q.2]))))
    | _,_=>False)
   rw [o,e3];refine ⟨⟨?_,by rw [sizeLine_eq]; exact hc.2⟩,w⟩;have:=hc.1
   cases hl:kD kd.1 kd.2 kk with
   | none=>exact hl
   | some d=>rw [hl] at this; cases this
  .rw [if_neg hc] at h; cases h
theorem cGS{tg:Expr}{g g':WG}(h:PG3 X tg g)(c:∀ d ρ Q,g' d ρ Q->g d ρ Q):PG3 X tg g':=N6 h λ_ _ _ _ aFN=>by obtain ⟨H₀,S,w,ρ,G,d,Q3,hl,st,dn,hg,k⟩:=aFN; exact ⟨H₀,S,w,ρ,G,d,Q3,hl,st,dn,c d ρ Q3 hg,k⟩
theorem oD{i:Nat}{x:Str}{pos:Pos}(hN:X.N.Nodup)(hi:X.N[i]? = some x:=by rfl)(hx:Loc X.env.scope x:=by first | exact .inl rfl | exact .inr rfl)(hf:X.fn x=true\/X.env.scope.names.lookup x=some .local:=by first | exact .inl rfl | exact .inr rfl):PG3 X (.Name x pos) (wG (pF i)) :=
 cGS (aE8 hN hi hx hf) λd ρ Q aFO=>by obtain ⟨ρ',e,q⟩:=aFO; cases e; exact q
theorem VA{i j:Nat}{x y:Str}{k:Nat}{pos px py:Pos}(hc:X.calm=true)(hN:X.N.Nodup)(hi:X.N[i]? = some x:=by rfl)(hj:X.N[j]? = some y:=by rfl)(hx:Loc X.env.scope x:=by first | exact .inl rfl | exact .inr rfl)(hy:Loc X.env.scope y:=by first | exact .inl rfl | exact .inr rfl)
  (hf:X.fn x=true\/X.env.scope.names.lookup x=some .local:=by first | exact .inl rfl | exact .inr rfl) (hf2:X.fn y=true\/X.env.scope.names.lookup y=some .local:=by first | exact .inl rfl | exact .inr rfl)
  (hn:(assignEach [.Name x px,.Name y py] X.env).length=2:=by rfl) (hst:(assignEach [.Name x px,.Name y py] X.env).findIdx? (·.1)=none:=by rfl)
  (hs1:(assignEach [.Name x px,.Name y py] X.env).map (·.2)=assign (.Name x px) X.env::(assignEach [.Name y py] X.env).map (·.2):=by rfl) (hs2:(assignEach [.Name y py] X.env).map (·.2)=assign (.Name y py) X.env::(assignEach [] X.env).map (·.2):=by rfl) :
  PG3 X (.Tuple [.Name x px,.Name y py] k pos) (wG (QN i j)):=cGS (aE9 hc hN hi hj hx hy hf hf2 hn hst hs1 hs2) λd ρ Q aFP=>by
 obtain ⟨ρ',e,q⟩:=aFP;obtain ⟨p,ep,rfl⟩:=uR e;rw [MD ep];exact q
theorem sE{tg iter:Expr}{body:List Stmt}{it:AF}{g:QY}{b:SF}{pos:Pos}(hc:X.calm=true)(hp:PassesOwn (model X.prog X.w) X.A X.env X.xe)(hi:PI4 X tg iter it)(hg:PG3 X tg (wG g))(hb:DR X body b)
  (hs:∀ x,foldedSetIterable iter X.env x=pure x:=by intro _; rfl):vW X (.For tg iter body [] pos) (dZ it g b):=cS (aJQ hc hp hi hg hb hs) λE ρ w=>by
 unfold wS dZ at w
 cases h:it (kC ρ) with
 | none=>rw [h] at w; exact w.elim
 | some ds =>
  rw [h] at w;refine ⟨ds,h,λi ρ'=>wS (gT g b (ds.drop i)) E ρ',(by show wS (gT g b (ds.drop 0)) E ρ; rw [drop_zero]; exact w),λi d ρ' hd iv=>?_,λρ' iv=>?_⟩
  .have hi:i<ds.length:=(List.getElem?_eq_some_iff.mp hd).1;have e1:ds[i]=d:=(List.getElem?_eq_some_iff.mp hd).2;have iv:wS (gT g b (ds.drop i)) E ρ':=iv;rw [List.drop_eq_getElem_cons hi,e1] at iv;unfold wS gT at iv
   cases hg:g d ρ' with
   | none=>rw [hg] at iv; exact iv.elim
   | some ρ1 =>
    rw [hg] at iv;dsimp only at iv;refine ⟨ρ1,hg,?_⟩;unfold wS
    cases hb:b ρ1 with
    | nx ρ2=>rw [hb] at iv; dsimp only; rw [hb]; exact iv
    | rt d=>rw [hb] at iv; dsimp only; rw [hb]; exact iv
    | no=>rw [hb] at iv; dsimp only; rw [hb]; exact iv
    | ex c=>rw [hb] at iv; dsimp only; rw [hb]; exact iv
  .have iv:wS (gT g b (ds.drop ds.length)) E ρ':=iv;rw [List.drop_length] at iv;exact iv
theorem VB{c:Expr}{body:List Stmt}{t:TF}{b:SF}{pos:Pos}{n:Nat}(hp:PassesOwn (model X.prog X.w) X.A X.env X.xe)(hc:BG X c t)(hb:DR X body b):vW X (.While c body [] pos) (sQ n t b):=cS (aCP hp hc hb) λE ρ w=>by
 have least:∀ {p:Nat->Prop},(∃ n,p n) -> ∃ n,p n /\ ∀ m,p m->n<=m:=λ{p} ⟨n,hn⟩=>by
  induction n using Nat.strongRecOn with
  | ind n ih =>
   by_cases h:∃ m,m<n/\p m
   .obtain ⟨m,hm,pm⟩:=h; exact ih m hm pm
   .exact ⟨n,hn,λm pm=>by apply Classical.byContradiction;intro z;exact h ⟨m,by omega,pm⟩⟩
 refine ⟨λρ'=>∃ m,wS (fU t b m) E ρ',λρ'=>(Classical.epsilon λm=>wS (fU t b m) E ρ' /\ ∀ k,wS (fU t b k) E ρ'->m<=k),⟨n,w⟩,λρ' iv=>?_⟩;obtain ⟨m0,hm0⟩:=least iv;have hm:=Classical.epsilon_spec (p:=λm=>wS (fU t b m) E ρ' /\ ∀ k,wS (fU t b k) E ρ'->m<=k) ⟨m0,hm0⟩;dsimp only;generalize (Classical.epsilon λm=>wS (fU t b m) E ρ' /\ ∀ k,wS (fU t b k) E ρ'->m<=k)=m at hm ⊢
 cases m with
 | zero=>exact hm.1.elim
 | succ m =>
  have h1:=hm.1;unfold wS fU at h1
  cases ht:t (bU ρ') with
  | none=>rw [ht] at h1; exact h1.elim
  | some c =>
   rw [ht] at h1;refine ⟨c,ht,?_⟩
   cases c with
   | false=>rw [if_neg Bool.false_ne_true]; exact h1
   | true =>
    rw [if_pos rfl];dsimp only at h1;unfold wS
    cases hb:b ρ' with
    | nx ρ2 =>
     rw [hb] at h1;have h2:wS (fU t b m) E ρ2:=h1;refine ⟨⟨m,h2⟩,?_⟩;obtain ⟨k0,hk0⟩:=least (p:=λm=>wS (fU t b m) E ρ2) ⟨m,h2⟩;have hk:=Classical.epsilon_spec (p:=λm=>wS (fU t b m) E ρ2 /\ ∀ k,wS (fU t b k) E ρ2->m<=k) ⟨k0,hk0⟩;exact Nat.lt_succ_of_le (hk.2 m h2)
    | rt d=>rw [hb] at h1; exact h1
    | no=>rw [hb] at h1; exact h1
    | ex c=>rw [hb] at h1; exact h1
end
theorem gS{P:Program}{w:World}{K:PySem.W.Frag}{mg:Str->Option Value}{base:Heap}{x qual:Str}{st:Stmt}{f:Addr}{fd:FuncData}{N ps:List Str}{k n np:Nat}{b:SF}(F:m9 K x qual st f fd)(S:bD N ps (aH st))(hn:N.length=n)(hp:ps.length=np)
  (hbody:∀ (cdv:Value) (A:Around) (outer:List Env) (s:Shared) (H:Hp) (E:XK),kB k (A.deeper (envOfC qual (aH st) s.heap.objs.size f cdv)) ->
   DR (DA dE P w K mg base N qual (aH st) f cdv A outer s H E).nox (aX st) b):aQ P w K mg base dE (k+1) f fd ps (dR K (cU n np b)):=by
 subst hn hp;refine aJA F S (λds Q ⟨d,e,q⟩=>?_) λcdv A outer s H E hr=>⟨_,hbody cdv A outer s H E hr,λds Q ⟨d,e,q⟩=>?_⟩
 .unfold cU at e;by_cases h:ds.length=ps.length
  .exact h
  .rw [if_neg h] at e; cases e
 .unfold cU at e;by_cases h:ds.length=ps.length
  .rw [if_pos h] at e;have e2:n9 N ds=eF N.length ds:=rfl;unfold wS;rw [e2]
   cases hb:b (eF N.length ds) with
   | rt d'=>rw [hb] at e; cases e; exact q
   | nx ρ=>rw [hb] at e; cases e; exact q
   | no=>rw [hb] at e; cases e
   | ex c=>rw [hb] at e; cases e
  .rw [if_neg h] at e; cases e
theorem aFQ{P:Program}{w:World}{K:PySem.W.Frag}{mg:Str->Option Value}{base:Heap}{k:Nat}{f:Addr}{fd:FuncData}{ps:List Str}:aQ P w K mg base dE k f fd ps (dR K λ_=>.no) :=
 ⟨λ_ _ _ _ h=>(by obtain ⟨_,_,_,_,_,⟨_,e,_⟩,_⟩:=h; cases e),λ_ _ _ _ _ _ _ _ _ _ _ _ _ h=>(by obtain ⟨_,_,_,_,_,⟨_,e,_⟩,_⟩:=h; cases e)⟩
section
variable{X:Cx}{pins:List (Addr×Obj)}{σ:L2.St}{H:Hp}
theorem uS{s:Shared}{x:V}{v:Value}{k:Bool}{A:Around}{E:Value->Shared->Prop}{Q:Bool->Shared->Prop}(I:Inv X pins σ H s)(rx:RelV x v)(e:x=.bl k\/(∃ p xs,x=.ref p/\(eO X.K H p xs\/gR X.K H p xs)/\k=!xs.isEmpty))
  (q:∀ tk,Q k { s with toks:=tk }):wpAny (model X.prog X.w) A (truthy v) Q E s:=by
 have hs:sizeLine=16777216:=sizeLine_eq;rcases e with rfl | ⟨p,xs,rfl,hx,rfl⟩
 .cases rx;exact wpAny_truthy_bool (q s.toks)
 .cases rx;rcases hx with hx | hx
  .obtain ⟨its,r,pl,hz⟩:=I.list hx;have hlen:=r.length;exact wpAny_truthy_list pl.isList (by simp only [size_toArray]; omega) (by rw [mL r]; exact q _)
  .obtain ⟨its,r,pl,hz⟩:=I.tuple hx;have hlen:=r.length;exact truthy_tuple pl (by simp only [size_toArray]; omega) (by rw [mL r]; exact q _)
noncomputable def TrV(K:PySem.W.Frag)(H:Hp)(x:V)(k:Bool):Prop:=x=.bl k\/(∃ p xs,x=.ref p/\(eO K H p xs\/gR K H p xs)/\k=!xs.isEmpty)
theorem BL{n j:Nat}(h:j<n):(List.range n).drop j=j::(List.range n).drop (j+1):=by
 have hl:j<(List.range n).length:=by rw [length_range]; exact h
 rw [List.drop_eq_getElem_cons hl,List.getElem_range]
section
variable{it:Addr}{fp wr:List Addr}{n:Nat}{P:Nat->Value->Prop}{St:Nat->Heap->Prop}{R:Result->Shared->Prop}{tr:Nat->Bool}
theorem BM(W:Walks X.prog X.w X.A.in1 it fp wr n P St)(hf:∀ b∈wr,pH X pins H b)(ht:∀ j v,P j v -> ∃ x,RelV x v/\TrV X.K H x (tr j)) :
  ∀ (m j:Nat) (st:Shared),m+j=n->Inv X pins σ H st->St j st.heap->(∀ st',Inv X pins σ H st'->R (.ok (.ret (.bool (((List.range n).drop j).any tr)))) st')->codeAny (model X.prog X.w) X.A (.builtin "any.loop" ⟨[.ref it],[]⟩) R st
 | 0,j,st,hj,I,hS,k=>by
  obtain rfl:j=n:=by omega
  refine codeAny_builtin (F.entry_any_loop) ?_;rw [Around.under_plainId F.plain_any_loop];refine wpAny_bind (W.done st _ _ hS λh2 t2 kp=>wpAny_bind (wpAny_rule (wpAny_pure ?_)));have:=k _ (GA (t':=t2) I kp hf)
  rwa [List.drop_eq_nil_of_le (by simp)] at this
 | m+1,j,st,hj,I,hS,k=>by
  have hjn:j<n:=by omega
  refine codeAny_builtin (F.entry_any_loop) ?_;rw [Around.under_plainId F.plain_any_loop];refine wpAny_bind (W.item j st _ _ hjn hS λv h2 t2 pv hS2 kp=>?_);have I2:Inv X pins σ H { st with heap:=h2,toks:=t2 }:=GA (t':=t2) I kp hf;obtain ⟨x,rx,hx⟩:=ht j v pv;rw [BL hjn,any_cons] at k;refine wpAny_bind (wpAny_holding (uS I2 rx hx λt3=>wpAny_bind (wpAny_letGo ?_)));have I3:Inv X pins σ H { st with heap:=h2,toks:=t3 }:=I2.tok t3
  cases hb:tr j with
  | false =>
   rw [hb,Bool.false_or] at k;rw [if_neg Bool.false_ne_true];exact wpAny_pure ⟨plainId_quiet F.plain_any_loop _,BM W hf ht m (j+1) _ (by omega) I3 hS2 k⟩
  | true =>
   rw [hb,Bool.true_or] at k;rw [if_pos rfl];exact wpAny_bind (wpAny_rule (wpAny_pure (k _ I3)))
theorem BN(W:Walks X.prog X.w X.A.in1 it fp wr n P St)(hf:∀ b∈wr,pH X pins H b)(ht:∀ j v,P j v -> ∃ x,RelV x v/\TrV X.K H x (tr j)) :
  ∀ (m j:Nat) (st:Shared),m+j=n->Inv X pins σ H st->St j st.heap->(∀ st',Inv X pins σ H st'->R (.ok (.ret (.bool (((List.range n).drop j).all tr)))) st')->codeAny (model X.prog X.w) X.A (.builtin "all.loop" ⟨[.ref it],[]⟩) R st
 | 0,j,st,hj,I,hS,k=>by
  obtain rfl:j=n:=by omega
  refine codeAny_builtin (F.entry_all_loop) ?_;rw [Around.under_plainId F.plain_all_loop];refine wpAny_bind (W.done st _ _ hS λh2 t2 kp=>wpAny_bind (wpAny_rule (wpAny_pure ?_)));have:=k _ (GA (t':=t2) I kp hf)
  rwa [List.drop_eq_nil_of_le (by simp)] at this
 | m+1,j,st,hj,I,hS,k=>by
  have hjn:j<n:=by omega
  refine codeAny_builtin (F.entry_all_loop) ?_;rw [Around.under_plainId F.plain_all_loop];refine wpAny_bind (W.item j st _ _ hjn hS λv h2 t2 pv hS2 kp=>?_);have I2:Inv X pins σ H { st with heap:=h2,toks:=t2 }:=GA (t':=t2) I kp hf;obtain ⟨x,rx,hx⟩:=ht j v pv;rw [BL hjn,all_cons] at k;refine wpAny_bind (wpAny_holding (uS I2 rx hx λt3=>wpAny_bind (wpAny_letGo ?_)));have I3:Inv X pins σ H { st with heap:=h2,toks:=t3 }:=I2.tok t3
  cases hb:tr j with
  | true =>
   rw [hb,Bool.true_and] at k;rw [if_pos rfl];exact wpAny_pure ⟨plainId_quiet F.plain_all_loop _,BN W hf ht m (j+1) _ (by omega) I3 hS2 k⟩
  | false =>
   rw [hb,Bool.false_and] at k;rw [if_neg Bool.false_ne_true];exact wpAny_bind (wpAny_rule (wpAny_pure (k _ I3)))
end
noncomputable def aC6(f:List Bool->Bool)(K:PySem.W.Frag):List V->Hp->VK->Prop:=λxs H Q=>∃ a ys bs,xs=[.ref a]/\H a=some (.lst ys)/\bs.length=ys.length/\(∀ (j:Nat) (y:V) (b:Bool),ys[j]? = some y->bs[j]? = some b->TrV K H y b)/\Q (.bl (f bs)) H
theorem OU(hc:X.calm=true):fP X (.builtin "any") (aC6 (λbs=>bs.any id) X.K):=by
 intro pins s σ H xs us Q I r h;obtain ⟨a,ys,bs,rfl,ha,hl,ht,q⟩:=h;obtain ⟨u,rfl,ru⟩:=vals1 r;cases ru;obtain ⟨its,rv,p,hz⟩:=I.list (eO.of ha);have hlt:a<s.heap.objs.size:=by obtain ⟨o,n,e,_⟩:=p; exact Heap.lt_size e
 have hn:its.length=ys.length:=rv.length.symm;have ht2:∀ j v,its.toArray[j]? = some v -> ∃ x,RelV x v/\TrV X.K H x (bs.getD j true):=λj v e=>by
  have e1:its[j]? = some v:=by simpa using e
  have hj:j<ys.length:=by have:=(List.getElem?_eq_some_iff.mp e1).1; omega
  obtain ⟨u,e2,ru⟩:=rv.get (getElem?_eq_getElem hj);rw [e1] at e2;cases e2;refine ⟨_,ru,ht j _ _ (getElem?_eq_getElem hj) ?_⟩;rw [getD_eq_getElem?_getD,getElem?_eq_getElem (by omega)];rfl
 refine call_function_tree (F.kind_any) F.plain_any F.entry_any (F.args_any1 _) ?_;unfold Builtin.«any»;refine wpAny_bind (m:=oneArg "any" _) (wpAny_pure (wpAny_bind (wpAny_pyIter_list p.isList (wpAny_pure ⟨plainId_quiet F.plain_any_loop _,?_⟩))));have hfr:H s.heap.objs.size=none:=I.hok.fresh (Nat.le_refl _);have I1:Inv X pins σ H { s with heap:=s.heap.push { cls:=.type "list_iterator",data:=.fields #[.ref a,rawInt 0] } }:=I.kept (t':=s.toks) λb o e=>Heap.get?_push_of_some _ e;refine BM (X:=X) (pins:=pins) (σ:=σ) (H:=H) (tr:=λj=>bs.getD j true) (Walks.list (A:=X.A.in1) (show X.A.in1.handled=none from I.ok.hd hc) s.heap.objs.size a (Nat.ne_of_lt hlt) its.toArray) (λb hb=>?_) ht2 its.toArray.size 0 _ rfl I1
  ⟨⟨_,Heap.get?_push_size _ rfl,rfl,rfl⟩,p.isList.at λo e=>Heap.get?_push_of_some _ e⟩ λst' I'=>?_
 .cases List.mem_singleton.mp hb;exact I.FG (Nat.le_refl _) hfr
 .refine ⟨.bl _,H,I',rfl,?_⟩;rw [drop_zero,show its.toArray.size=bs.length by simp [hn,hl],range_any];exact q
theorem OV(hc:X.calm=true):fP X (.builtin "all") (aC6 (λbs=>bs.all id) X.K):=by
 intro pins s σ H xs us Q I r h;obtain ⟨a,ys,bs,rfl,ha,hl,ht,q⟩:=h;obtain ⟨u,rfl,ru⟩:=vals1 r;cases ru;obtain ⟨its,rv,p,hz⟩:=I.list (eO.of ha);have hlt:a<s.heap.objs.size:=by obtain ⟨o,n,e,_⟩:=p; exact Heap.lt_size e
 have hn:its.length=ys.length:=rv.length.symm;have ht2:∀ j v,its.toArray[j]? = some v -> ∃ x,RelV x v/\TrV X.K H x (bs.getD j true):=λj v e=>by
  have e1:its[j]? = some v:=by simpa using e
  have hj:j<ys.length:=by have:=(List.getElem?_eq_some_iff.mp e1).1; omega
  obtain ⟨u,e2,ru⟩:=rv.get (getElem?_eq_getElem hj);rw [e1] at e2;cases e2;refine ⟨_,ru,ht j _ _ (getElem?_eq_getElem hj) ?_⟩;rw [getD_eq_getElem?_getD,getElem?_eq_getElem (by omega)];rfl
 refine call_function_tree (F.kind_all) F.plain_all F.entry_all (F.args_all1 _) ?_;unfold Builtin.«all»;refine wpAny_bind (m:=oneArg "all" _) (wpAny_pure (wpAny_bind (wpAny_pyIter_list p.isList (wpAny_pure ⟨plainId_quiet F.plain_all_loop _,?_⟩))));have hfr:H s.heap.objs.size=none:=I.hok.fresh (Nat.le_refl _);have I1:Inv X pins σ H { s with heap:=s.heap.push { cls:=.type "list_iterator",data:=.fields #[.ref a,rawInt 0] } }:=I.kept (t':=s.toks) λb o e=>Heap.get?_push_of_some _ e;refine BN (X:=X) (pins:=pins) (σ:=σ) (H:=H) (tr:=λj=>bs.getD j true) (Walks.list (A:=X.A.in1) (show X.A.in1.handled=none from I.ok.hd hc) s.heap.objs.size a (Nat.ne_of_lt hlt) its.toArray) (λb hb=>?_) ht2 its.toArray.size 0 _ rfl I1
  ⟨⟨_,Heap.get?_push_size _ rfl,rfl,rfl⟩,p.isList.at λo e=>Heap.get?_push_of_some _ e⟩ λst' I'=>?_
 .cases List.mem_singleton.mp hb;exact I.FG (Nat.le_refl _) hfr
 .refine ⟨.bl _,H,I',rfl,?_⟩;rw [drop_zero,show its.toArray.size=bs.length by simp [hn,hl],range_all];exact q
theorem aA8{K:PySem.W.Frag}{S:Addr->Prop}{H:Hp}:∀ {es:List D} {ys:List V} {bs:List Bool},aP K S H es ys->nF es=some bs->bs.length=ys.length /\ ∀ (j:Nat) (y:V) (b:Bool),ys[j]? = some y->bs[j]? = some b->TrV K H y b
 | [],ys,bs,dn,h=>by simp only [aP] at dn;subst dn;cases h;exact ⟨rfl,λj y b e=>by simp at e⟩
 | d::es,ys,bs,dn,h=>by
  obtain ⟨v,r,rfl,h1,h2⟩:=dn.bV;obtain ⟨b,eb,h⟩:=bnd h;obtain ⟨bs',e2,rfl⟩:=uR h;obtain ⟨hl,ih⟩:=aA8 h2 e2;refine ⟨by simp [hl],λj y c ey ec=>?_⟩
  cases j with
  | zero =>
   simp at ey ec;subst ey ec;cases d<;>first | cases eb; done | skip
   .cases eb; simp only [Dn] at h1; exact .inl h1
   .cases eb; simp only [Dn] at h1; obtain ⟨a,xs,rfl,ha,da⟩:=h1; exact .inr ⟨a,xs,rfl,.inr (gR.of ha),by rw [<- da.empty]⟩
   .cases eb; simp only [Dn] at h1; obtain ⟨a,xs,rfl,ha,_,da⟩:=h1; exact .inr ⟨a,xs,rfl,.inl (eO.of ha),by rw [<- da.empty]⟩
  | succ j=>exact ih j y c (by simpa using ey) (by simpa using ec)
noncomputable def trF(f:List Bool->Bool):F1
 | [.lst es],Q=>∃ bs,nF es=some bs/\Q (.bl (f bs))
 | _,_=>False
theorem VC{K:PySem.W.Frag}{f:List Bool->Bool}:C3 K (aC6 f K) (trF f):=by
 intro S H xs ds Q3 Q fc hd hf k
 match ds,hf with
 | [.lst es],⟨bs,eb,q⟩ =>
  obtain ⟨v,r,rfl,h1,h2⟩:=hd.bV;simp only [aP] at h2;subst h2;simp only [Dn] at h1;obtain ⟨a,ys,rfl,ha,sa,da⟩:=h1;obtain ⟨hl,ht⟩:=aA8 da eb;exact ⟨a,ys,bs,rfl,ha,hl,ht,k _ H _ (Same.refl H) (by simp only [Dn]) q⟩
theorem aKs{p pos:Pos}{e:Expr}{t:AF}(hc:X.calm=true)(hm:X.mg "any" = none)(ha:BH X [e] t)(hg:Gl X "any" := by rfl)(he:starEach [e] X.env=(false,eval e X.env)::starEach [] X.env:=by rfl):dA X (.Call (.Name "any" p) [e] [] pos) (cN anyM t) :=
 cE (tQ (OU hc) VC PyProof.Rows.boot_any hg hm ha (by decide) (by decide) he (by rfl)) (DT λds d Q e q=>by
  unfold anyM at e;split at e
  .obtain ⟨bs,eb,rfl⟩:=uR e; exact ⟨bs,eb,q⟩
  .cases e)
theorem aC7{p pos:Pos}{e:Expr}{t:AF}(hc:X.calm=true)(hm:X.mg "all" = none)(ha:BH X [e] t)(hg:Gl X "all" := by rfl)(he:starEach [e] X.env=(false,eval e X.env)::starEach [] X.env:=by rfl):dA X (.Call (.Name "all" p) [e] [] pos) (cN allM t) :=
 cE (tQ (OV hc) VC PyProof.Rows.boot_all hg hm ha (by decide) (by decide) he (by rfl)) (DT λds d Q e q=>by
  unfold allM at e;split at e
  .obtain ⟨bs,eb,rfl⟩:=uR e; exact ⟨bs,eb,q⟩
  .cases e)
end
end L4
end
section
namespace L3
open PySem PySem.Spec PyProof.Rows L2
namespace Rv
end Rv
section
variable{prog:Program}{w:World}{A:Around}{E:Value->Shared->Prop}{s:Shared}
end
section
variable{X:Cx}{tg:Expr}
end
section
variable{prog:Program}{w:World}{A:Around}{E:Value->Shared->Prop}{s:Shared}
end
section
variable{X:Cx}
end
end L3
namespace L4
open PySem PySem.Spec PyProof.Rows L2 L3
section
variable{X:Cx}{tg:Expr}
end
end L4
end
section
namespace L4
open PySem PySem.Spec PyProof.Rows L2 L3 PySem.W
noncomputable def told(lt:Nat->Nat->Bool){α:Type}:KasT α->α
 | .ret a=>a
 | .ask i j k=>told lt (k (lt i j))
theorem jA{lt:Nat->Nat->Bool}{α β:Type}(f:α->KasT β):∀ t:KasT α,told lt (t.bind f)=told lt (f (told lt t))
 | .ret _=>rfl
 | .ask i j k=>jA f (k (lt i j))
section
variable{lt:Nat->Nat->Bool}
noncomputable def Up(lt:Nat->Nat->Bool)(p:Array Nat)(k:Nat):Prop:=∀ i j,i<j->j<k->lt (p.getD j 0) (p.getD i 0)=false
noncomputable def QU(lt:Nat->Nat->Bool)(p:Array Nat)(k:Nat):Prop:=∀ i j,i<j->j<k->lt (p.getD i 0) (p.getD j 0)=false
structure vG (lt:Nat->Nat->Bool):Prop where
 as:∀ a b,lt a b=true->lt b a=false
 tr:∀ a b c,lt b a=false->lt c b=false->lt c a=false
theorem vG.W3(O:vG lt)(x:Nat):lt x x=false:=by
 cases hb:lt x x with
 | false=>rfl
 | true=>have:=O.as _ _ hb; rw [hb] at this; exact this
theorem i5{p:Array Nat}{i:Nat}:p.getD i 0=(p[i]?).getD 0:=by rw [Array.getD_eq_getD_getElem?]
theorem iF{p:Array Nat}{i j:Nat}(hj:j<=p.size)(k:Nat):(kas_rev p i j).getD k 0=if i<=k/\k<j then p.getD (i+j - 1 - k) 0 else p.getD k 0:=by unfold kas_rev;rw [i5,getElem?_mirror_all hj];split<;>rw [i5]
theorem yP(p:Array Nat)(i j:Nat):(kas_rev p i j).size=p.size:=mirror_size _ _ _ _
theorem gL(p:Array Nat)(i j:Nat):(kas_rev p i j).Perm p:=mirror_perm _ _ _ _
theorem JI(O:vG lt)(p:Array Nat):∀ f n,1<=n->Up lt p n->n<=told lt (kas_asc p f n)/\told lt (kas_asc p f n)<=n+f/\Up lt p (told lt (kas_asc p f n))/\(told lt (kas_asc p f n)<n+f->lt (p.getD (told lt (kas_asc p f n)) 0) (p.getD (told lt (kas_asc p f n) - 1) 0)=true)
 | 0,n,h1,hu=>⟨Nat.le_refl _,Nat.le_refl _,hu,λh=>absurd h (Nat.lt_irrefl _)⟩
 | f+1,n,h1,hu=>by
  show n<=told lt (if lt (p.getD n 0) (p.getD (n - 1) 0)=true then KasT.ret n else kas_asc p f (n+1))/\told lt (if lt (p.getD n 0) (p.getD (n - 1) 0)=true then KasT.ret n else kas_asc p f (n+1))<=n+(f+1)/\Up lt p (told lt (if lt (p.getD n 0) (p.getD (n - 1) 0)=true then KasT.ret n else kas_asc p f (n+1)))/\(told lt (if lt (p.getD n 0) (p.getD (n - 1) 0)=true then KasT.ret n else kas_asc p f (n+1))<n+(f+1)->lt (p.getD (told lt (if lt (p.getD n 0) (p.getD (n - 1) 0)=true then KasT.ret n else kas_asc p f (n+1))) 0) (p.getD (told lt (if lt (p.getD n 0) (p.getD (n - 1) 0)=true then KasT.ret n else kas_asc p f (n+1)) - 1) 0)=true)
  cases hc:lt (p.getD n 0) (p.getD (n - 1) 0) with
  | true=>exact ⟨Nat.le_refl _,by show n<=n+(f+1); omega,hu,λ_=>hc⟩
  | false =>
   rw [if_neg Bool.false_ne_true];have hu2:Up lt p (n+1):=λi j hij hj=>by
    by_cases hj2:j<n
    .exact hu i j hij hj2
    .have:j=n:=by omega
     subst this;by_cases hi:i=j - 1
     .subst hi; exact hc
     .exact O.tr _ _ _ (hu i (j - 1) (by omega) (by omega)) hc
   obtain ⟨a,b,c,d⟩:=JI O p f (n+1) (by omega) hu2;exact ⟨by omega,by omega,c,λh=>d (by omega)⟩
theorem aC8{p:Array Nat}{n:Nat}(hn:n<=p.size)(h:QU lt p n):Up lt (kas_rev p 0 n) n:=λi j hij hj=>by rw [iF hn,iF hn,if_pos ⟨by omega,hj⟩,if_pos ⟨by omega,by omega⟩];exact h _ _ (by omega) (by omega)
noncomputable def Last(lt:Nat->Nat->Bool)(p:Array Nat)(n q:Nat):Prop:=q+1<=n /\ ∀ i j,n - (q+1)<=i->i<n->n - (q+1)<=j->j<n->lt (p.getD i 0) (p.getD j 0)=false
theorem rev_last{p:Array Nat}{n q:Nat}(hn:n<=p.size)(h:QU lt p n)(l:Last lt p n q):QU lt (kas_rev p (n - (q+1)) n) n:=λi j hij hj=>by
 have:=l.1;rw [iF hn,iF hn];by_cases h1:n - (q+1)<=i
 .rw [if_pos ⟨h1,by omega⟩,if_pos ⟨by omega,hj⟩];exact l.2 _ _ (by omega) (by omega) (by omega) (by omega)
 .rw [if_neg (by omega)];by_cases h2:n - (q+1)<=j
  .rw [if_pos ⟨h2,hj⟩]; exact h _ _ (by omega) (by omega)
  .rw [if_neg (by omega)]; exact h i j hij hj
theorem lK(O:vG lt){p:Array Nat}{n:Nat}(h1:1<=n)(h:QU lt p n)(hc:lt (p.getD (n - 1) 0) (p.getD n 0)=false):QU lt p (n+1):=λi j hij hj=>by
 by_cases hj2:j<n
 .exact h i j hij hj2
 .have:j=n:=by omega
  subst this;by_cases hi:i=j - 1
  .subst hi; exact hc
  .exact O.tr _ _ _ hc (h i (j - 1) (by omega) (by omega))
theorem VD{p:Array Nat}{n q:Nat}(hn:n<p.size):(kas_rev p (n - (q+1)) n).getD n 0=p.getD n 0:=by rw [iF (Nat.le_of_lt hn),if_neg (by omega)]
theorem vX(O:vG lt):∀ f (p:Array Nat) n q,1<=n->n+f<=p.size->QU lt p n->Last lt p n q -> ∀ r,r=told lt (kas_desc f p n q)->r.1.Perm p/\r.2.1<=n+f/\n<=r.2.1/\QU lt r.1 r.2.1/\Last lt r.1 r.2.1 r.2.2
 | 0,p,n,q,_,_,h,l,r,er=>by subst er; exact ⟨Array.Perm.refl _,Nat.le_refl _,Nat.le_refl _,h,l⟩
 | f+1,p,n,q,h1,hs,h,l,r,er=>by
  have er:r=told lt (if lt (p.getD n 0) (p.getD (n - 1) 0)=true then (if q>0 then kas_desc f (kas_rev p (n - (q+1)) n) (n+1) 0 else kas_desc f p (n+1) 0) else .ask (p.getD (n - 1) 0) (p.getD n 0) λd=>if d=true then .ret (p,n,q) else kas_desc f p (n+1) (q+1)):=er;have one:∀ p:Array Nat,Last lt p (n+1) 0:=λp=>⟨by omega,λi j a b c d=>by
   have e1:i=n:=by omega
   have e2:j=n:=by omega
   rw [e1,e2]; exact O.W3 _⟩
  cases hc:lt (p.getD n 0) (p.getD (n - 1) 0) with
  | true =>
   rw [hc,if_pos rfl] at er;have hc2:=O.as _ _ hc;by_cases hq:q>0
   .rw [if_pos hq] at er;have d1:=rev_last (by omega) h l;have lq:=l.1;have d2:QU lt (kas_rev p (n - (q+1)) n) (n+1):=by refine lK O h1 d1 ?_;rw [VD (by omega),iF (by omega),if_pos ⟨by omega,by omega⟩];exact O.tr _ (p.getD (n - 1) 0) _ hc2 (l.2 _ _ (by omega) (by omega) (by omega) (by omega))
    obtain ⟨a,b,c,d,e⟩:=vX O f (kas_rev p (n - (q+1)) n) (n+1) 0 (by omega) (by rw [yP]; omega) d2 (one _) r er;exact ⟨a.trans (gL _ _ _),by omega,by omega,d,e⟩
   .rw [if_neg hq] at er;obtain ⟨a,b,c,d,e⟩:=vX O f p (n+1) 0 (by omega) (by omega) (lK O h1 h hc2) (one _) r er;exact ⟨a,by omega,by omega,d,e⟩
  | false =>
   rw [hc,if_neg Bool.false_ne_true] at er;have er:r=told lt (if lt (p.getD (n - 1) 0) (p.getD n 0)=true then KasT.ret (p,n,q) else kas_desc f p (n+1) (q+1)):=er
   cases hd:lt (p.getD (n - 1) 0) (p.getD n 0) with
   | true =>
    rw [hd,if_pos rfl] at er;subst er;exact ⟨Array.Perm.refl _,by show n<=n+(f+1); omega,Nat.le_refl _,h,l⟩
   | false =>
    rw [hd,if_neg Bool.false_ne_true] at er;have lq:=l.1;have l2:Last lt p (n+1) (q+1):=⟨by omega,λi j a b c d=>by
     by_cases hi:i<n
     .by_cases hj:j<n
      .exact l.2 i j (by omega) hi (by omega) hj
      .have:j=n:=by omega
       subst this;exact O.tr _ (p.getD (j - 1) 0) _ hd (l.2 i (j - 1) (by omega) hi (by omega) (by omega))
     .have:i=n:=by omega
      subst this;by_cases hj:j<i
      .exact O.tr _ (p.getD (i - 1) 0) _ (l.2 (i - 1) j (by omega) (by omega) (by omega) hj) hc
      .have:j=i:=by omega
       subst this;exact (one p).2 j j (by omega) (by omega) (by omega) (by omega)⟩
    obtain ⟨a,b,c,d,e⟩:=vX O f p (n+1) (q+1) (by omega) (by omega) (lK O h1 h hd) l2 r er;exact ⟨a,by omega,by omega,d,e⟩
theorem BO{p q:Array Nat}(h:p.Perm q):p.size=q.size:=h.size_eq
theorem ME(O:vG lt){n nrem:Nat}{p:Array Nat}(h1:1<=n)(hn:n<=nrem)(hs:nrem<=p.size)(h:QU lt p n)(r:Nat×Array Nat)(er:r=told lt (kas_tail3 n nrem p)):r.2.Perm p/\1<=r.1/\r.1<=nrem/\Up lt r.2 r.1:=by unfold kas_tail3 at er;rw [jA] at er;obtain ⟨a,b,c,_⟩:=JI O (kas_rev p 0 n) (nrem - n) n h1 (aC8 (by omega) h);subst er;exact ⟨gL _ _ _,Nat.le_trans h1 a,(by show told lt _<=nrem; omega),c⟩
theorem uT(O:vG lt){n nrem:Nat}{p:Array Nat}(h1:1<=n)(hn:n+1<=nrem)(hs:nrem<=p.size)(h:QU lt p (n+1))(r:Nat×Array Nat)(er:r=told lt (kas_descPart n nrem p)):r.2.Perm p/\1<=r.1/\r.1<=nrem/\Up lt r.2 r.1:=by
 unfold kas_descPart at er;rw [jA] at er;have one:Last lt p (n+1) 0:=⟨by omega,λi j a b c d=>by
  have e1:i=n:=by omega
  have e2:j=n:=by omega
  rw [e1,e2]; exact O.W3 _⟩
 obtain ⟨a,b,c,d,e⟩:=vX O (nrem - (n+1)) p (n+1) 0 (by omega) (by omega) h one _ rfl;generalize told lt (kas_desc (nrem - (n+1)) p (n+1) 0)=z at a b c d e er;have hz:=BO a;by_cases hq:z.2.2>0
 .rw [if_pos hq] at er;obtain ⟨a2,b2,c2,d2⟩:=ME O (n:=z.2.1) (nrem:=nrem) (p:=kas_rev z.1 (z.2.1 - (z.2.2+1)) z.2.1) (by omega) (by omega) (by rw [yP]; omega) (rev_last (by omega) d e) r er;exact ⟨a2.trans ((gL _ _ _).trans a),b2,c2,d2⟩
 .rw [if_neg hq] at er;obtain ⟨a2,b2,c2,d2⟩:=ME O (n:=z.2.1) (nrem:=nrem) (p:=z.1) (by omega) (by omega) (by omega) d r er;exact ⟨a2.trans a,b2,c2,d2⟩
theorem nV(O:vG lt){n:Nat}{p:Array Nat}(h1:1<=n)(hs:n<=p.size)(r:Nat×Array Nat)(er:r=told lt (kas_count n p)):r.2.Perm p/\1<=r.1/\r.1<=n/\Up lt r.2 r.1:=by
 unfold kas_count at er;rw [jA] at er;obtain ⟨a,b,c,d⟩:=JI O p (n - 1) 1 (Nat.le_refl _) (λi j hij hj=>by omega);generalize told lt (kas_asc p (n - 1) 1)=m at a b c d er;by_cases hm:(m == n)=true
 .rw [if_pos hm] at er;subst er;exact ⟨Array.Perm.refl _,a,by show m<=n; omega,c⟩
 .rw [if_neg hm] at er;have hm:m≠n:=λe=>hm (by rw [e]; simp);have hlt:=d (by omega);by_cases h2:m>1
  .rw [if_pos h2] at er;have er:r=told lt (if lt (p.getD 0 0) (p.getD (m - 1) 0)=true then KasT.ret (m,p) else kas_descPart m n (kas_rev p 0 m)):=er
   cases hc:lt (p.getD 0 0) (p.getD (m - 1) 0) with
   | true =>
    rw [hc,if_pos rfl] at er;subst er;exact ⟨Array.Perm.refl _,a,by show m<=n; omega,c⟩
   | false =>
    rw [hc,if_neg Bool.false_ne_true] at er;have all:∀ i j,i<m->j<m->lt (p.getD i 0) (p.getD j 0)=false:=λi j hi hj=>by
     have i0:∀ i,i<m->lt (p.getD 0 0) (p.getD i 0)=false:=λi hi=>by
      by_cases he:i=m - 1
      .subst he; exact hc
      .exact O.tr _ _ _ (c i (m - 1) (by omega) (by omega)) hc
     have W3:∀ x,lt x x=false:=λx=>by
      cases hb:lt x x with
      | false=>rfl
      | true=>have:=O.as _ _ hb; rw [hb] at this; exact this
     have z0:lt (p.getD i 0) (p.getD 0 0)=false:=by
      by_cases hi0:i=0
      .subst hi0; exact W3 _
      ·-- a later one is not less than the first one
       exact c 0 i (by omega) hi
     exact O.tr _ _ _ (i0 j hj) z0
    have dn:QU lt (kas_rev p 0 m) (m+1):=by
     refine lK O a (λi j hij hj=>?_) ?_
     .rw [iF (by omega),iF (by omega),if_pos ⟨by omega,by omega⟩,if_pos ⟨by omega,by omega⟩];exact all _ _ (by omega) (by omega)
     .rw [iF (by omega),iF (by omega),if_pos ⟨by omega,by omega⟩,if_neg (by omega)];exact O.tr _ (p.getD (m - 1) 0) _ (O.as _ _ hlt) (all _ _ (by omega) (by omega))
    obtain ⟨a2,b2,c2,d2⟩:=uT O a (by omega) (by rw [yP]; exact hs) dn r er;exact ⟨a2.trans (gL _ _ _),b2,c2,d2⟩
  .rw [if_neg h2] at er;have:m=1:=by omega
   subst this;have dn:QU lt p (1+1):=lK O (Nat.le_refl _) (λi j hij hj=>by omega) (O.as _ _ hlt);exact uT O (Nat.le_refl _) (by omega) hs dn r er
theorem yQ(O:vG lt)(p:Array Nat)(k:Nat):∀ f l r,l<=r->r<=k->r - l<=f->Up lt p k->(∀ i,i<l->lt (p.getD k 0) (p.getD i 0)=false)->(∀ i,r<=i->i<k->lt (p.getD i 0) (p.getD k 0)=false) ->
  told lt (kas_place p k f l r)<=k/\(∀ i,i<told lt (kas_place p k f l r)->lt (p.getD k 0) (p.getD i 0)=false) /\ ∀ i,told lt (kas_place p k f l r)<=i->i<k->lt (p.getD i 0) (p.getD k 0)=false
 | 0,l,r,hlr,hr,hf,_,h1,h2=>by
  have:l=r:=by omega
  subst this;exact ⟨hr,h1,h2⟩
 | f+1,l,r,hlr,hr,hf,hu,h1,h2=>by
  unfold kas_place;by_cases hge:l >= r
  .rw [if_pos hge];have:l=r:=by omega
   subst this;exact ⟨hr,h1,h2⟩
  .rw [if_neg hge];show told lt (if lt (p.getD k 0) (p.getD ((l+r) / 2) 0)=true then kas_place p k f l ((l+r) / 2) else kas_place p k f ((l+r) / 2+1) r)<=k/\(∀ i,i<told lt (if lt (p.getD k 0) (p.getD ((l+r) / 2) 0)=true then kas_place p k f l ((l+r) / 2) else kas_place p k f ((l+r) / 2+1) r)->lt (p.getD k 0) (p.getD i 0)=false) /\ ∀ i,told lt (if lt (p.getD k 0) (p.getD ((l+r) / 2) 0)=true then kas_place p k f l ((l+r) / 2) else kas_place p k f ((l+r) / 2+1) r)<=i->i<k->lt (p.getD i 0) (p.getD k 0)=false
   cases hc:lt (p.getD k 0) (p.getD ((l+r) / 2) 0) with
   | true =>
    rw [if_pos rfl];refine yQ O p k f l ((l+r) / 2) (by omega) (by omega) (by omega) hu h1 λi hi hik=>?_;by_cases he:i=(l+r) / 2
    .subst he; exact O.as _ _ hc
    .exact O.tr _ _ _ (O.as _ _ hc) (hu _ i (by omega) hik)
   | false =>
    rw [if_neg Bool.false_ne_true];refine yQ O p k f ((l+r) / 2+1) r (by omega) hr (by omega) hu (λi hi=>?_) h2;by_cases he:i=(l+r) / 2
    .subst he; exact hc
    .exact O.tr _ _ _ (hu i ((l+r) / 2) (by omega) (by omega)) hc
theorem MF{p:Array Nat}{k l:Nat}(hk:k<p.size)(hl:l<=k)(i:Nat):(bubble p k (k - l)).getD i 0=if i=l then p.getD k 0 else if l<i/\i<=k then p.getD (i - 1) 0 else p.getD i 0:=by
 rw [i5,getElem?_bubble hk _ (by omega),show k - (k - l)=l by omega];by_cases h1:i=l
 .rw [if_pos h1,if_pos h1,i5]
 .rw [if_neg h1,if_neg h1];by_cases h2:l<i/\i<=k
  .rw [if_pos h2,if_pos h2,i5]
  .rw [if_neg h2,if_neg h2,i5]
theorem VE(O:vG lt):∀ f (p:Array Nat) k,k+f<=p.size->Up lt p k->(told lt (kas_bin f p k)).Perm p/\Up lt (told lt (kas_bin f p k)) (k+f)
 | 0,p,k,_,h=>⟨Array.Perm.refl _,h⟩
 | f+1,p,k,hs,h=>by
  unfold kas_bin;rw [jA];obtain ⟨a,b,c⟩:=yQ O p k k 0 k (by omega) (Nat.le_refl _) (by omega) h (λi hi=>by omega) (λi hi hik=>by omega);generalize told lt (kas_place p k k 0 k)=l at a b c;have hk:k<p.size:=by omega
  have h2:Up lt (bubble p k (k - l)) (k+1):=λi j hij hj=>by
   rw [MF hk a,MF hk a];by_cases hjl:j=l
   .rw [if_pos hjl,if_neg (by omega),if_neg (by omega)]; exact b i (by omega)
   .rw [if_neg hjl];by_cases hj2:l<j/\j<=k
    .rw [if_pos hj2];by_cases hil:i=l
     .rw [if_pos hil]; exact c (j - 1) (by omega) (by omega)
     .rw [if_neg hil];by_cases hi2:l<i/\i<=k
      .rw [if_pos hi2]; exact h _ _ (by omega) (by omega)
      .rw [if_neg hi2]; exact h _ _ (by omega) (by omega)
    .rw [if_neg hj2,if_neg (by omega),if_neg (by omega)]; exact h _ _ hij (by omega)
  obtain ⟨e,g⟩:=VE O f (bubble p k (k - l)) (k+1) (by rw [bubble_size]; omega) h2;exact ⟨e.trans (bubble_perm _ _ _),by rw [show k+(f+1)=k+1+f by omega]; exact g⟩
theorem ZQ(O:vG lt){n:Nat}(h1:1<=n):(told lt (kas_sort n)).Perm (List.toArray (List.range n))/\Up lt (told lt (kas_sort n)) n:=by
 unfold kas_sort;rw [jA];obtain ⟨a,b,c,d⟩:=nV O (n:=n) (p:=List.toArray (List.range n)) h1 (by simp) _ rfl;generalize told lt (kas_count n (List.toArray (List.range n)))=r at a b c d;have hs:r.2.size=n:=by rw [BO a]; simp
 by_cases hr:r.1<n
 .rw [if_pos hr,show max r.1 1=r.1 by omega];obtain ⟨e,g⟩:=VE O (n - r.1) r.2 r.1 (by omega) d;exact ⟨e.trans a,by rw [show r.1+(n - r.1)=n by omega] at g; exact g⟩
 .rw [if_neg hr];have:r.1=n:=by omega
  exact ⟨a,by rw [<- this]; exact d⟩
end
end L4
end
section
namespace L4
open PySem L3
noncomputable def DZ:List D->Option D
 | [.lst ds]=>(intsOf ds).bind λns=>if ns.length<64 then some (.int ((bT ns).length:Nat)) else none
 | _=>none
end L4
end
section
namespace K26
open PySem L3 L4
noncomputable def lL:gD:=cU 3 3
  (bF (bQ 1 [1,2] (cK (aB 0)) (g1 0) cL (QV (tV (aE wJ (aB 0) (aB 2))) (aB 1) (aB 0))))
noncomputable def cB:gD:=cU 4 1
  (aJ (aT 1 (pZ (aA (cN cR (aA (aB 0) aC)) aC)))
  (aJ (dZ (cK (aI LL.eW (aA (aB 0) aC))) (QN 2 3)
   (aT 1 (aI lL (aA (aB 1) (aA (aE eE (aB 1) (aB 2)) (aA (aE eE (aB 1) (aB 3)) aC))))))
  (bF (cN DZ (aA (aB 1) aC)))))
noncomputable def gB:gD:=cU 7 1
  (aJ (aT 1 (pZ (aA (cN cR (aA (aB 0) aC)) aC)))
  (aJ (aT 2 (eC (.int 0)))
  (aJ (sQ nG (tV (aE J8 (cN cR (aA (aB 1) aC)) (eC (.int 0))))
   (aJ (aT 2 (aE dB (aB 2) (eC (.int 1))))
   (aJ (iT 3 (eM (aA (aE eE (aB 1) (eC (.int 0))) aC)))
   (aJ (aT 4 (eC (.int 0)))
   (aJ (sQ nG (tV (aE ltM (aB 4) (cN cR (aA (aB 3) aC))))
    (aJ (dZ (cK (aB 1)) (pF 5)
     (aJ (pR 6 (uF (Z8 (aE (oP false) (aB 5) (aE eE (aB 0) (aE eE (aB 3) (aB 4)))) (aE (oP false) (aE eE (aB 3) (aB 4)) (aE eE (aB 0) (aB 5))))))
     (i6 (uY (tV (aB 6)) (tV (aE (oP true) (aB 5) (aB 3))))
      (sX (p4 3 jQ (bX (aB 5))))
      eP)))
    (aT 4 (aE dB (aB 4) (eC (.int 1))))))
   (mW 1 (bQ 1 [3] (cK (aB 1)) (g1 0) (tV (aE (oP true) (aB 0) (aB 1))) (aB 0))))))))
  (bF (aB 2)))))
noncomputable def h8:gD:=cU 3 2
  (aJ (aT 2 (bQ 1 [0] (cK (aB 1)) (g1 0) cL (cN cQ (aA (bQ 1 [1] (cK (aB 0)) (g1 0) cL (aE dB (aB 0) (cN cR (aA (aB 1) aC)))) aC))))
  (bF (aE dB (aB 0) (cN cQ (aA (aB 2) aC)))))
noncomputable def h9:gD:=cU 4 2
  (aJ (iT 2 (aE repLM (eM (aA (lA aC) aC)) (cN cR (aA (aB 0) aC))))
  (aJ (dZ (bM (aA (cN cR (aA (aB 0) aC)) aC)) (pF 3)
   (B3 2 (bX (cN cQ (aA (cN fQ (aA (bQ 1 [1] (cK (aE eE (aB 0) (aB 3))) (g1 0) cL (aE eE (aB 1) (aB 0))) aC)) aC))) (aE eE (aB 1) (aB 3))))
  (bF (cN cQ (aA (aB 2) aC)))))
noncomputable def rL:gD:=cU 11 1
  (aJ (aT 1 (aI LL.dS (aA (aB 0) (aA (eC (.int 0)) (aA (eC (.int 9)) (aA (eC (.int 100003)) aC))))))
  (aJ (aT 2 (aI gB (aA (aB 1) aC)))
  (aJ (aT 3 (aI LL.eR (aA (aB 1) aC)))
  (aJ (i6 (zF (iZ (tV (aI (LL.bI 6) (aA (aI cB (aA (aB 1) aC)) (aA (aB 2) aC))))) (iZ (tV (aI LL.fK (aA (aB 3) (aA (aE dB (cN cR (aA (aB 1) aC)) (eC (.int 1))) aC))))))
   (bF (eC (.bl false)))
   eP)
  (aJ (i6 (tV (cN anyM (aA (bQ 1 [3] (bM (aA (cN J9 (aA (aB 2) (aA (cN cR (aA (aB 3) aC)) aC))) aC)) (g1 0) cL (aE MV (aE eE (aB 1) (aB 0)) (eC (.int 0)))) aC)))
   (bF (eC (.bl false)))
   eP)
  (aJ (aT 4 (aI LL.dS (aA (aB 0) (aA (eC (.int 10)) (aA (eC (.int 4)) (aA (eC (.int 200017)) aC))))))
  (aJ (aT 5 (aI LL.dS (aA (aB 0) (aA (eC (.int 20)) (aA (eC (.int 4)) (aA (eC (.int 300007)) aC))))))
  (aJ (aT 6 (aI h8 (aA (aB 4) (aA (aB 5) aC))))
  (aJ (aT 7 (aI LL.fY (aA (aB 0) (aA (eC (.int 30)) (aA (eC (.int 400009)) aC)))))
  (aJ (i6 (tV (aE MV (aI LL.eQ (aA (aB 6) (aA (aB 7) aC))) (aE mulM (aI LL.eQ (aA (aB 4) (aA (aB 7) aC))) (aI LL.eQ (aA (aB 5) (aA (aB 7) aC))))))
   (bF (eC (.bl false)))
   eP)
  (aJ (iT 8 (eM aC))
  (aJ (dZ (cK (aI LL.dM (aA (aI LL.dU (aA (aB 0) (aA (eC (.int 33)) aC))) (aA (cN cR (aA (aB 6) aC)) (aA (eC (.int 500009)) aC))))) (pF 9)
   (sX (Q0 8 (aE iN (aB 9) (aE dB (cN cR (aA (aB 8) aC)) (eC (.int 1)))) (cN cR (aA (aB 8) aC)))))
  (aJ (aT 10 (aE dB (aI gB (aA (aB 4) aC)) (aI gB (aA (aB 5) aC))))
  (aJ (i6 (iZ (tV (aI (LL.bI 6) (aA (aI cB (aA (aB 6) aC)) (aA (aB 10) aC)))))
   (bF (eC (.bl false)))
   eP)
  (bF (mY (aI (LL.bI 6) (aA (aI cB (aA (aI h9 (aA (aB 6) (aA (aB 8) aC))) aC)) (aA (aB 10) aC))) (aI (LL.bI 6) (aA (aI cB (aA (aB 1) aC)) (aA (aB 2) aC)))))))))))))))))))
end K26
end
section
namespace K26
open PySem L3 L4 K24 LL
inductive Cn (x:List (List Int)):Int->Int->Prop
 | refl (a:Int):Cn x a a
 | step {a b c:Int}:Cn x a b->(b∈row x c\/c∈row x b)->(0<=c/\c<(x.length:Int))->(0<=b/\b<(x.length:Int))->Cn x a c
section
variable{x:List (List Int)}
theorem Cn.trans{a b c:Int}(h1:Cn x a b)(h2:Cn x b c):Cn x a c:=by
 induction h2 with
 | refl=>exact h1
 | step _ t r1 r2 ih=>exact .step ih t r1 r2
theorem Cn.symm{a b:Int}(h:Cn x a b):Cn x b a:=by
 induction h with
 | refl=>exact .refl _
 | step _ t r1 r2 ih=>exact Cn.trans (.step (.refl _) t.symm r2 r1) ih
structure W5 (x:List (List Int)) (P:List Int):Prop where
 len:P.length=x.length
 eq:∀ u v:Int,0<=u->u<(x.length:Int)->0<=v->v<(x.length:Int)->(at0 P u=at0 P v↔Cn x u v)
noncomputable def mrg(P:List Int)(o t:Int):List Int:=P.map λp=>if p=t then o else p
theorem OW{P:List Int}{o t:Int}(h:P.length<=1000):lL [aG P,.int o,.int t]=.ok (aG (mrg P o t)):=by
 unfold lL;refine gG rfl (gW (iO (P.map D.int) rfl (by rw [length_map]; omega) ?_));unfold mrg;rw [map_map];refine eI D.int (D.int∘λp=>if p=t then o else p) P λp _=>⟨[some (.int p),some (.int o),some (.int t)],rfl,?_⟩;unfold QV;rw [AK (f:=aE wJ (aB 0) (aB 2)) (b:=decide (p=t)) (d:=.bl (decide (p=t))) (bW (x:=.int p) (y:=.int t) rfl rfl rfl) rfl];by_cases e:p=t
 .rw [decide_eq_true e];show some (D.int o)=some (D.int (if p=t then o else p));rw [if_pos e]
 .rw [decide_eq_false e];show some (D.int p)=some (D.int (if p=t then o else p));rw [if_neg e]
theorem D0{P:List Int}{o t:Int}{u:Int}(h0:0<=u)(h1:u<(P.length:Int)):at0 (mrg P o t) u=if at0 P u=t then o else at0 P u:=by unfold mrg at0;rw [getElem?_map,getElem?_eq_getElem (by omega)];rfl
theorem lM(hx:Ord.Rows x)(hn:x.length<=9):∃ P,W5 x P/\cB [aO x]=.ok (.int (bT P).length):=by
 have main:∃ d,cB [aO x]=.ok d /\ ∃ P,W5 x P/\d=.int (bT P).length:=by
  unfold cB;refine tH rfl ?_;refine cD [.ro (aO x),.ro (aG (aW 0 x.length)),.no,.no] (fM (aG (aW 0 x.length)) ?_ rfl) ?_
  .unfold pZ;rw [args1 (x:=.int x.length) (e9 (x:=aO x) rfl fR)];show (if (x.length:Int).natAbs<=16777216 then some (D.lst ((aW 0 (x.length:Int).toNat).map D.int)) else none)=_;rw [if_pos (by omega)];rfl
  refine nL (λρ=>∃ (P:List Int) (v2 v3:Sv),W5 x P/\ρ=[.ro (aO x),.ro (aG P),v2,v3]) ?_ ?_
  .refine xG ((u9.T x).map pairD) (λj ρ=>∃ (P:List Int) (v2 v3:Sv),(P.length=x.length/\(∀ u v:Int,0<=u->u<(x.length:Int)->0<=v->v<(x.length:Int)->at0 P u=at0 P v->Cn x u v) /\ ∀ p∈(u9.T x).take j,at0 P p.1=at0 P p.2)/\ρ=[.ro (aO x),.ro (aG P),v2,v3]) ?_ ⟨aW 0 x.length,.no,.no,⟨aN _ _,λu v u0 u1 v0 v1 e=>?_,λp hp=>by cases hp⟩,rfl⟩ ?_ ?_
   .unfold cK;rw [gX (x:=aO x) rfl (qE hx hn)];rfl
   .have i:∀ u:Int,0<=u->u<(x.length:Int)->at0 (aW 0 x.length) u=u:=λu u0 u1=>by unfold at0;rw [iP (by omega)];show 0+(u.toNat:Int)=u;omega
    rw [i u u0 u1,i v v0 v1] at e;rw [e];exact .refl _
   .rintro j d _ hd ⟨P,v2,v3,⟨h1,h2,h3⟩,rfl⟩;rw [getElem?_map] at hd;obtain ⟨p,hp,rfl⟩:=Option.map_eq_some_iff.1 hd;obtain ⟨p0,p1,pr⟩:=u9.KL.1 (mem_of_getElem? hp);have ra:=u9.nO hx p0 p1 pr;refine ⟨[.ro (aO x),.ro (aG P),.ro (.int p.1),.ro (.int p.2)],rfl,?_⟩;refine ⟨_,fM (aG (mrg P (at0 P p.1) (at0 P p.2))) (jR (x:=aG P) (y:=.int (at0 P p.1)) (z:=.int (at0 P p.2)) rfl (bW (x:=aG P) (y:=.int p.1) rfl rfl (CJ ra.1 (by rw [h1]; exact ra.2))) (bW (x:=aG P) (y:=.int p.2) rfl rfl (CJ p0 (by rw [h1]; exact p1))) (OW (by omega))) rfl,mrg P (at0 P p.1) (at0 P p.2),.ro (.int p.1),.ro (.int p.2),⟨by unfold mrg; rw [length_map]; exact h1,λu v u0 u1 v0 v1 e=>?_,λq hq=>?_⟩,rfl⟩
    .rw [D0 u0 (by rw [h1]; exact u1),D0 v0 (by rw [h1]; exact v1)] at e;have ab:Cn x p.1 p.2:=.step (.refl _) (.inl pr) ⟨p0,p1⟩ ra;by_cases c1:at0 P u=at0 P p.2
     .have cu:=h2 u p.2 u0 u1 p0 p1 c1;by_cases c2:at0 P v=at0 P p.2
      .exact h2 u v u0 u1 v0 v1 (c1.trans c2.symm)
      .rw [if_pos c1,if_neg c2] at e;exact (cu.trans ab.symm).trans (h2 p.1 v ra.1 ra.2 v0 v1 e)
     .by_cases c2:at0 P v=at0 P p.2
      .have cv:=h2 v p.2 v0 v1 p0 p1 c2;rw [if_neg c1,if_pos c2] at e;exact (h2 u p.1 u0 u1 ra.1 ra.2 e).trans (ab.trans cv.symm)
      .rw [if_neg c1,if_neg c2] at e;exact h2 u v u0 u1 v0 v1 e
    .rw [take_add_one,hp] at hq;have hqT:q∈u9.T x:=by
      rcases List.mem_append.1 hq with z | z
      .exact List.mem_of_mem_take z
      .have:q=p:=by simpa using z
       rw [this]; exact mem_of_getElem? hp
     obtain ⟨q0,q1,qr⟩:=u9.KL.1 hqT;have qa:=u9.nO hx q0 q1 qr;rw [D0 qa.1 (by rw [h1]; exact qa.2),D0 q0 (by rw [h1]; exact q1)];rcases List.mem_append.1 hq with z | z
     .rw [h3 q z]
     .have:q=p:=by simpa using z
      subst this;rw [if_pos rfl];split<;>rfl
   .rintro ρ ⟨P,v2,v3,⟨h1,h2,h3⟩,rfl⟩;rw [length_map,List.take_length] at h3;refine ⟨P,v2,v3,⟨h1,λu v u0 u1 v0 v1=>⟨h2 u v u0 u1 v0 v1,λc=>?_⟩⟩,rfl⟩
    induction c with
    | refl=>rfl
    | step _ t r1 r2 ih =>
     rw [ih r2.1 r2.2];rcases t with t | t
     .exact h3 (_,_) (u9.KL.2 ⟨r1.1,r1.2,t⟩)
     .exact (h3 (_,_) (u9.KL.2 ⟨r2.1,r2.2,t⟩)).symm
  .rintro _ ⟨P,v2,v3,hL,rfl⟩;have hl:=hL.len;refine nM (.int (bT P).length) (e9 (x:=aG P) rfl ?_) ⟨P,hL,rfl⟩;show ((L4.intsOf (P.map D.int)).bind λns=>if ns.length<64 then some (D.int ((bT ns).length:Nat)) else none)=_;rw [LL.dO,Option.bind_some,if_pos (by omega)]
 obtain ⟨d,e,P,h,rfl⟩:=main;exact ⟨P,h,e⟩
theorem D1{l l':List Int}(w:Int->Int)(hw:∀ i:Int,0<=i->i<(l.length:Int)->0<=w i/\w i<(l'.length:Int))(h:∀ i j:Int,0<=i->i<(l.length:Int)->0<=j->j<(l.length:Int)->at0 l' (w i)=at0 l' (w j)->at0 l i=at0 l j):(bT l).length<=(bT l').length:=by
 obtain ⟨n1,m1⟩:=gY l;obtain ⟨n2,m2⟩:=gY l';have ix:∀ v∈bT l,(l.idxOf v:Int)<l.length/\at0 l (l.idxOf v)=v:=λv hv=>by have hlt:l.idxOf v<l.length:=List.idxOf_lt_length_iff.2 ((m1 v).1 hv);refine ⟨by omega,?_⟩;unfold at0;rw [Int.toNat_natCast,getElem?_eq_getElem hlt,List.getElem_idxOf hlt];rfl
 have:=Ord.dH ((bT l).map λv=>at0 l' (w (l.idxOf v))) (bT l') ?_ ?_
 .rwa [length_map] at this
 .rw [List.Nodup,pairwise_map];refine List.Pairwise.imp_of_mem ?_ n1;intro u v hu hv ne e;have a:=ix u hu;have b:=ix v hv;have:=h _ _ (by omega) a.1 (by omega) b.1 e;rw [a.2,b.2] at this;exact ne this
 .intro t ht;obtain ⟨v,hv,rfl⟩:=List.mem_map.1 ht;have a:=ix v hv;have r:=hw _ (by omega) a.1;refine (m2 _).2 ?_;unfold at0;rw [getElem?_eq_getElem (by omega)];exact getElem_mem _
theorem yR{t:TF}{b:L4.SF}{Q:aS->Prop}(P:Nat->aS->Prop)(step:∀ m ρ,P m ρ->(t (bU ρ)=some false/\Q ρ)\/(t (bU ρ)=some true/\Nx (b ρ) λρ'=>∃ m',m'<m/\P m' ρ')):∀ (N n:Nat) (ρ:aS),n<N->P n ρ->Nx (sQ N t b ρ) Q
 | 0,n,ρ,h,_=>by omega
 | N+1,n,ρ,h,p=>by
  show Nx (match t (bU ρ) with
   | none=>.no
   | some false=>.nx ρ
   | some true=>match b ρ with
    | .nx ρ'=>fU t b N ρ'
    | o=>o) Q
  rcases step n ρ p with ⟨e,q⟩ | ⟨e,ρ',e2,m',lt,p'⟩
  .rw [e]; exact ⟨ρ,rfl,q⟩
  .rw [e];dsimp only;rw [e2];exact yR P step N m' ρ' (by omega) p'
noncomputable def lf(x:List (List Int))(P V:List Int):List Int:=(aW 0 x.length).filter λt=>!V.contains (at0 P t)
theorem qQ{P V:List Int}{t:Int}:t∈lf x P V↔(0<=t/\t<(x.length:Int))/\at0 P t∉V:=by
 unfold lf;rw [mem_filter,bG];simp only [Bool.not_eq_true',contains_eq_mem,decide_eq_false_iff_not]
 constructor
 .rintro ⟨q1,q2⟩; exact ⟨by omega,q2⟩
 .rintro ⟨q1,q2⟩; exact ⟨by omega,q2⟩
theorem aA9(x:List (List Int))(P V:List Int):(lf x P V).Nodup:=(tK _).sublist filter_sublist
theorem VF(x:List (List Int))(P V:List Int):(lf x P V).length<=x.length:=by have:=length_filter_le (λt=>!V.contains (at0 P t)) (aW 0 x.length);rw [aN] at this;exact this
noncomputable def td(x:List (List Int))(s b:Int):Bool:=(row x s).contains b||(row x b).contains s
structure Pc (x:List (List Int)) (L:List Int) (P:List Int) (t0:Int) (pc:List Int):Prop where
 nd:pc.Nodup
 sub:∀ t∈pc,t∈L/\at0 P t=at0 P t0
 has:t0∈pc
noncomputable abbrev S7(x:List (List Int))(L:List Int)(f:Int)(v3 v4 v5 v6:Sv):aS:=[.ro (aO x),.ro (aG L),.ro (.int f),v3,v4,v5,v6]
theorem ZR(hx:Ord.Rows x)(hn:x.length<=9){P:List Int}(hL:W5 x P){L:List Int}(hLn:L.Nodup)(hLl:L.length<=9)(hLr:∀ t∈L,0<=t/\t<(x.length:Int)){t0 s:Int}{f:Int}{pc:List Int}{i:Nat}(hs:pc[i]? = some s)(h:Pc x L P t0 pc)(v5 v6:Sv) :
  Nx (dZ (cK (aB 1)) (pF 5)
     (aJ (pR 6 (uF (Z8 (aE (oP false) (aB 5) (aE eE (aB 0) (aE eE (aB 3) (aB 4)))) (aE (oP false) (aE eE (aB 3) (aB 4)) (aE eE (aB 0) (aB 5))))))
     (i6 (uY (tV (aB 6)) (tV (aE (oP true) (aB 5) (aB 3))))
      (sX (p4 3 jQ (bX (aB 5))))
      eP)) (S7 x L f (.ow (aG pc)) (.ro (.int i)) v5 v6)) λρ=>∃ (ext:List Int) (v5 v6:Sv),Pc x L P t0 (pc++ext)/\(∀ b∈L,td x s b=true->b∈pc++ext)/\ρ=S7 x L f (.ow (aG (pc++ext))) (.ro (.int i)) v5 v6:=by
 have hi:i<pc.length:=(List.getElem?_eq_some_iff.1 hs).1;have sL:=h.sub s (mem_of_getElem? hs);have sr:=hLr s sL.1;refine xG (L.map D.int) (λj ρ=>∃ (ext:List Int) (v5 v6:Sv),Pc x L P t0 (pc++ext)/\(∀ b∈L.take j,td x s b=true->b∈pc++ext)/\ρ=S7 x L f (.ow (aG (pc++ext))) (.ro (.int i)) v5 v6) rfl ⟨[],v5,v6,by rw [append_nil]; exact h,(λb hb=>by cases hb),by rw [append_nil]⟩ ?_ ?_
 .rintro j d _ hd ⟨ext,w5,w6,hP,hT,rfl⟩;rw [getElem?_map] at hd;obtain ⟨b,hb,rfl⟩:=Option.map_eq_some_iff.1 hd;have bL:=mem_of_getElem? hb;have br:=hLr b bL;refine ⟨S7 x L f (.ow (aG (pc++ext))) (.ro (.int i)) (.ro (.int b)) w6,rfl,?_⟩;have gs:eE (aG (pc++ext)) (.int i)=some (.int s):=mC (by rw [getElem?_append_left hi]; exact hs);have e1:aE (oP false) (aB 5) (aE eE (aB 0) (aE eE (aB 3) (aB 4))) (bU (S7 x L f (.ow (aG (pc++ext))) (.ro (.int i)) (.ro (.int b)) w6))=some (.bl ((row x s).contains b)):=bW (x:=.int b) (y:=tupI (row x s)) rfl (bW (x:=aO x) (y:=.int s) rfl (bW (x:=aG (pc++ext)) (y:=.int i) rfl rfl gs) (CG sr.1 sr.2)) mB;have e2:aE (oP false) (aE eE (aB 3) (aB 4)) (aE eE (aB 0) (aB 5)) (bU (S7 x L f (.ow (aG (pc++ext))) (.ro (.int i)) (.ro (.int b)) w6))=some (.bl ((row x b).contains s)):=bW (x:=.int s) (y:=tupI (row x b)) (bW (x:=aG (pc++ext)) (y:=.int i) rfl rfl gs) (bW (x:=aO x) (y:=.int b) rfl rfl (CG br.1 br.2)) mB;have e3:Z8 (aE (oP false) (aB 5) (aE eE (aB 0) (aE eE (aB 3) (aB 4)))) (aE (oP false) (aE eE (aB 3) (aB 4)) (aE eE (aB 0) (aB 5))) (bU (S7 x L f (.ow (aG (pc++ext))) (.ro (.int i)) (.ro (.int b)) w6))=some (.bl (td x s b)):=by unfold Z8 td;rw [e1,e2];cases (row x s).contains b<;>rfl
  refine rF (S7 x L f (.ow (aG (pc++ext))) (.ro (.int i)) (.ro (.int b)) (.ro (.bl (td x s b)))) (aD5 (.bl (td x s b)) e3 rfl rfl) ?_;have aKt:(pc++ext).length<=L.length:=Ord.dH _ _ hP.nd λt ht=>(hP.sub t ht).1;refine aAE (td x s b && !(pc++ext).contains b) (aDQ (b:=td x s b) (AK (d:=.bl (td x s b)) rfl rfl) (λz=>?_) λz=>by rw [z]; rfl) (λhc=>?_) λhc=>?_
  .rw [z,Bool.true_and];exact AK (d:=.bl (!(pc++ext).contains b)) (bW (x:=.int b) (y:=aG (pc++ext)) rfl rfl rE) rfl
  .rw [Bool.and_eq_true] at hc;have nb:b∉pc++ext:=by simpa using hc.2
   have tie:b∈row x s\/s∈row x b:=by have:=hc.1;unfold td at this;rw [Bool.or_eq_true] at this;exact this.imp (by simp) (by simp)
   refine ⟨_,aHZ (d:=.int b) (ds:=(pc++ext).map D.int) rfl rfl (by rw [length_map]; omega),ext++[b],.ro (.int b),.ro (.bl (td x s b)),⟨?_,λt ht=>?_,?_⟩,λc hc2 htd=>?_,?_⟩
   .rw [<- List.append_assoc,nodup_append];exact ⟨hP.nd,by simp,λp hp q hq e=>nb (by rw [mem_singleton] at hq; rw [<- hq,<- e]; exact hp)⟩
   .rw [<- List.append_assoc] at ht;rcases List.mem_append.1 ht with z | z
    .exact hP.sub t z
    .rw [List.mem_singleton.1 z];refine ⟨bL,?_⟩;rw [<- sL.2];exact (hL.eq b s br.1 br.2 sr.1 sr.2).2 (.step (.refl _) tie sr br)
   .rw [<- List.append_assoc]; exact mem_append_left _ hP.has
   .rw [<- List.append_assoc];rw [take_add_one,hb] at hc2;rcases List.mem_append.1 hc2 with z | z
    .exact mem_append_left _ (hT c z htd)
    .have:c=b:=by simpa using z
     rw [this]; exact mem_append_right _ (List.mem_singleton.2 rfl)
   .rw [<- List.append_assoc];unfold aG;rw [map_append (l₁:=pc++ext)];rfl
  .refine Q9 ⟨ext,.ro (.int b),.ro (.bl (td x s b)),hP,λc hc2 htd=>?_,rfl⟩;rw [take_add_one,hb] at hc2;rcases List.mem_append.1 hc2 with z | z
   .exact hT c z htd
   .have:c=b:=by simpa using z
    subst this;rw [htd,Bool.true_and,Bool.not_eq_false'] at hc;simpa only [contains_eq_mem,decide_eq_true_eq] using hc
 .rintro ρ ⟨ext,w5,w6,hP,hT,rfl⟩;rw [length_map,List.take_length] at hT;exact ⟨ext,w5,w6,hP,hT,rfl⟩
theorem yS(hx:Ord.Rows x)(hn:x.length<=9){P:List Int}(hL:W5 x P):gB [aO x]=.ok (.int (bT P).length):=by
 unfold gB;refine SD rfl ?_;have l0:lf x P []=aW 0 x.length:=List.filter_eq_self.2 λt _=>rfl;refine cD [.ro (aO x),.ro (aG (lf x P [])),.no,.no,.no,.no,.no] (fM (aG (lf x P [])) ?_ rfl) ?_
 .unfold pZ;rw [args1 (x:=.int x.length) (e9 (x:=aO x) rfl fR),l0];show (if (x.length:Int).natAbs<=16777216 then some (D.lst ((aW 0 (x.length:Int).toNat).map D.int)) else none)=_;rw [if_pos (by omega)];rfl
 refine cD (S7 x (lf x P []) 0 .no .no .no .no) rfl ?_;refine nL (λρ=>∃ v1 v3 v4 v5 v6:Sv,ρ=[.ro (aO x),v1,.ro (.int (bT P).length),v3,v4,v5,v6]) ?_ ?_
 .refine yR (λm ρ=>∃ (V:List Int) (v3 v4 v5 v6:Sv),m=(lf x P V).length/\V.Nodup/\(∀ v∈V,∃ t:Int,0<=t/\t<(x.length:Int)/\at0 P t=v)/\ρ=S7 x (lf x P V) V.length v3 v4 v5 v6) ?_ nG (lf x P []).length _ (by have:=VF x P []; unfold nG; omega) ⟨[],.no,.no,.no,.no,rfl,nodup_nil,(λv h=>by cases h),rfl⟩;rintro m _ ⟨V,v3,v4,v5,v6,hm,nd,hV,rfl⟩;have tt:tV (aE J8 (cN cR (aA (aB 1) aC)) (eC (.int 0))) (bU (S7 x (lf x P V) V.length v3 v4 v5 v6))=some (decide (0<((lf x P V).length:Int))):=AK (d:=.bl (decide (0<((lf x P V).length:Int)))) (bW (x:=.int (lf x P V).length) (y:=.int 0) (e9 (x:=aG (lf x P V)) rfl vT) rfl rfl) rfl;by_cases e0:(lf x P V).length=0
  .left
   refine ⟨by rw [tt,decide_eq_false (by omega)],?_⟩;have all:∀ t:Int,0<=t->t<(x.length:Int)->at0 P t∈V:=λt t0 t1=>Classical.byContradiction λz=>by have:=qQ.2 ⟨⟨t0,t1⟩,z⟩;rw [List.eq_nil_of_length_eq_zero e0] at this;cases this
   have pm:V.Perm (bT P):=(List.perm_ext_iff_of_nodup nd (gY P).1).2 λv=>by
    rw [(gY P).2]
    constructor
    .intro hv;obtain ⟨t,t0,t1,rfl⟩:=hV v hv;unfold at0;rw [getElem?_eq_getElem (by rw [hL.len]; omega)];exact getElem_mem _
    .intro hv;obtain ⟨i,hi,rfl⟩:=getElem_of_mem hv;have:=all i (by omega) (by rw [<- hL.len]; omega);unfold at0 at this;rw [Int.toNat_natCast,getElem?_eq_getElem hi] at this;exact this
   exact ⟨_,v3,v4,v5,v6,by rw [pm.length_eq]⟩
  .right
   refine ⟨by rw [tt,decide_eq_true (by omega)],?_⟩;obtain ⟨t0,ht0⟩:∃ t0,(lf x P V)[0]? = some t0:=⟨_,getElem?_eq_getElem (by omega)⟩;have t0L:=mem_of_getElem? ht0;obtain ⟨t0r,t0v⟩:=qQ.1 t0L;have lfl:=VF x P V;refine rF (S7 x (lf x P V) ((V.length:Int)+1) v3 v4 v5 v6) (fM (.int ((V.length:Int)+1)) (bW (x:=.int V.length) (y:=.int 1) rfl rfl rfl) rfl) ?_;refine rF (S7 x (lf x P V) ((V.length:Int)+1) (.ow (aG [t0])) v4 v5 v6) (aD4 (d:=aG [t0]) ?_) ?_
   .unfold eM;rw [args1 (x:=.int t0) (bW (x:=aG (lf x P V)) (y:=.int 0) rfl rfl (mC (j:=0) ht0))];rfl
   refine rF (S7 x (lf x P V) ((V.length:Int)+1) (.ow (aG [t0])) (.ro (.int 0)) v5 v6) rfl ?_;refine CF (λρ=>∃ (pc:List Int) (v4 v5 v6:Sv),Pc x (lf x P V) P t0 pc/\(∀ s∈pc,∀ b∈lf x P V,td x s b=true->b∈pc)/\ρ=S7 x (lf x P V) ((V.length:Int)+1) (.ow (aG pc)) v4 v5 v6) ?_ ?_
   .refine yR (λm ρ=>∃ (pc:List Int) (at':Nat) (v5 v6:Sv),m+at' = (lf x P V).length/\Pc x (lf x P V) P t0 pc/\at'<=pc.length/\(∀ s∈pc.take at',∀ b∈lf x P V,td x s b=true->b∈pc)/\ρ=S7 x (lf x P V) ((V.length:Int)+1) (.ow (aG pc)) (.ro (.int at')) v5 v6) ?_ nG (lf x P V).length _ (by unfold nG; omega) ⟨[t0],0,v5,v6,rfl,⟨by simp,λt ht=>by rw [List.mem_singleton.1 ht]; exact ⟨t0L,rfl⟩,List.mem_singleton.2 rfl⟩,by simp,(λs hs=>by cases hs),rfl⟩;rintro m2 _ ⟨pc,at',w5,w6,hm2,hP,hat,hcl,rfl⟩;have aKt:pc.length<=(lf x P V).length:=Ord.dH _ _ hP.nd λt ht=>(hP.sub t ht).1;have t2:tV (aE ltM (aB 4) (cN cR (aA (aB 3) aC))) (bU (S7 x (lf x P V) ((V.length:Int)+1) (.ow (aG pc)) (.ro (.int at')) w5 w6))=some (decide ((at':Int)<(pc.length:Int))):=AK (d:=.bl (decide ((at':Int)<(pc.length:Int)))) (bW (x:=.int at') (y:=.int pc.length) rfl (e9 (x:=aG pc) rfl vT) rfl) rfl;by_cases e1:at' = pc.length
    .left
     refine ⟨by rw [t2,decide_eq_false (by omega)],pc,_,w5,w6,hP,?_,rfl⟩;rw [e1,List.take_length] at hcl;exact hcl
    .right
     refine ⟨by rw [t2,decide_eq_true (by omega)],?_⟩;obtain ⟨s,hs⟩:∃ s,pc[at']? = some s:=⟨_,getElem?_eq_getElem (by omega)⟩;refine CF _ (ZR hx hn hL (aA9 x P V) (by omega) (λt ht=>(qQ.1 ht).1) hs hP w5 w6) ?_;rintro _ ⟨ext,u5,u6,hP2,hT,rfl⟩;refine HI (.int ((at':Int)+1)) rfl ⟨m2 - 1,by omega,pc++ext,at'+1,u5,u6,by omega,hP2,by rw [List.length_append]; omega,λs' hs' b hb htd=>?_,rfl⟩;rw [List.take_append_of_le_length (by omega),take_add_one,hs] at hs';rcases List.mem_append.1 hs' with z | z
     .exact mem_append_left _ (hcl s' z b hb htd)
     .have:s' = s:=by simpa using z
      rw [this] at htd;exact hT b hb htd
   .rintro _ ⟨pc,w4,w5,w6,hP,hcl,rfl⟩
    -- the piece is a whole one
    have whole:∀ t:Int,0<=t->t<(x.length:Int)->(t∈pc↔at0 P t=at0 P t0):=λt q0 q1=>by
     constructor
     .intro z; exact (hP.sub t z).2
     .intro z;have c:=(hL.eq t0 t t0r.1 t0r.2 q0 q1).1 z.symm
      clear z
      induction c with
      | refl=>exact hP.has
      | @step b c cb tie r1 r2 ih =>
       have hb:=ih r2.1 r2.2;have cl:c∈lf x P V:=qQ.2 ⟨r1,λy=>t0v (by rw [(hL.eq t0 c t0r.1 t0r.2 r1.1 r1.2).2 (.step cb tie r1 r2)]; exact y)⟩;refine hcl b hb c cl ?_;unfold td;rw [Bool.or_eq_true];exact tie.symm.imp (by simp) (by simp)
    refine ⟨_,aD6 ((lf x P (at0 P t0::V)).map D.int) ?_ (LL.lD _) rfl,(lf x P (at0 P t0::V)).length,?_,at0 P t0::V,.ow (aG pc),w4,w5,w6,rfl,List.nodup_cons.2 ⟨t0v,nd⟩,λv hv=>?_,rfl⟩
    .refine iO ((lf x P V).map D.int) rfl (by rw [length_map]; omega) ?_;have e:lf x P (at0 P t0::V)=(lf x P V).filter λb=>!pc.contains b:=by unfold lf;rw [List.filter_filter];refine filter_congr λt ht=>?_;have:=bG.1 ht;have w:=whole t (by omega) (by omega);rw [Bool.eq_iff_iff];simp only [Bool.not_eq_true',Bool.and_eq_true,contains_eq_mem,decide_eq_false_iff_not,mem_cons,not_or];rw [w]
     rw [e];exact kF D.int (λb=>!pc.contains b) D.int _ λb _=>⟨[some (.int b),some (aG pc)],rfl,AK (d:=.bl (!pc.contains b)) (bW (x:=.int b) (y:=aG pc) rfl rfl rE) rfl,λ_=>rfl⟩
    .rw [hm];have sub:(lf x P (at0 P t0::V)).length<(lf x P V).length:=by
      have:=Ord.dH (t0::lf x P (at0 P t0::V)) (lf x P V) (List.nodup_cons.2 ⟨λz=>(qQ.1 z).2 mem_cons_self,aA9 _ _ _⟩) λt ht=>by
       rcases List.mem_cons.1 ht with z | z
       .rw [z]; exact t0L
       .obtain ⟨q1,q2⟩:=qQ.1 z;exact qQ.2 ⟨q1,λy=>q2 (mem_cons_of_mem _ y)⟩
      rw [length_cons] at this;omega
     exact sub
    .rcases List.mem_cons.1 hv with z | z
     .exact ⟨t0,t0r.1,t0r.2,z.symm⟩
     .exact hV v z
 .rintro _ ⟨v1,v3,v4,v5,v6,rfl⟩;exact nM (.int (bT P).length) rfl rfl
end
section
variable{x y z:List (List Int)}
theorem VG{u v:List (List Int)}{a:Int}(h0:0<=a)(h1:a<(u.length:Int)):row (u++v) a=row u a:=by unfold row;rw [getElem?_append_left (by omega)]
theorem VH{u v:List (List Int)}{a:Int}(h0:0<=a):row (u++v) (a+u.length)=row v a:=by unfold row;rw [getElem?_append_right (by omega),show (a+(u.length:Int)).toNat - u.length=a.toNat by omega]
theorem ZS{u:List (List Int)}{f:List Int->List Int}{a:Int}(h0:0<=a)(h1:a<(u.length:Int)):row (u.map f) a=f (row u a):=by unfold row;rw [getElem?_map,getElem?_eq_getElem (by omega)];rfl
theorem GL(hx:Ord.Rows x):∀ t:Int,0<=t->t<(x.length:Int) -> ∀ a∈row x t,0<=a/\a<(x.length:Int):=λt h0 h1 a ha=>u9.nO hx h0 h1 ha
theorem ZT(hx:Ord.Rows x)(hy:Ord.Rows y):Sd x y (Ord.side x y):=by rw [<- Ord.ES hx hy];unfold Ord.ER;rw [List.map_id];refine ⟨by simp,λt h0 h1 a=>by rw [VG h0 h1],λt h0 h1 a=>?_,GL hx,GL hy⟩;rw [VH h0,ZS h0 h1,Ord.AN]
theorem OX(hx:Ord.Rows x)(hy:Ord.Rows y)(lx:x.length<=9)(ly:y.length<=9):h8 [aO x,aO y]=.ok (aO (Ord.side x y)):=by
 rw [<- Ord.ES hx hy];unfold h8;refine gG rfl (dN [.ro (aO x),.ro (aO y),.ro (.lst ((y.map (Ord.shift x.length)).map tupI))] (fM (.lst ((y.map (Ord.shift x.length)).map tupI)) ?_ rfl) (gW (bW (x:=aO x) (y:=.tup ((y.map (Ord.shift x.length)).map tupI)) rfl (e9 (x:=.lst ((y.map (Ord.shift x.length)).map tupI)) rfl rfl) ?_)))
 .refine iO (y.map tupI) rfl (by rw [length_map]; omega) ?_;rw [map_map];refine eI tupI (tupI∘Ord.shift x.length) y λr hr=>⟨[some (tupI r),some (aO x)],rfl,?_⟩;obtain ⟨i,hi,rfl⟩:=getElem_of_mem hr;have rl:=u9.RL hy (c:=(i:Int)) (by omega) (by omega);have e:row y (i:Int)=y[i]:=by unfold row; rw [Int.toNat_natCast,getElem?_eq_getElem hi]; rfl
  rw [e] at rl;refine e9 (x:=aG (Ord.shift x.length y[i])) (iO (y[i].map D.int) rfl (by rw [length_map]; omega) ?_) rfl;unfold Ord.shift;rw [map_map];exact eI D.int (D.int∘λz=>z+(x.length:Int)) y[i] λa _=>⟨[some (.int a),some (aO x)],rfl,bW (x:=.int a) (y:=.int x.length) rfl (e9 (x:=aO x) rfl fR) rfl⟩
 .show dB (.tup (x.map tupI)) (.tup ((y.map (Ord.shift x.length)).map tupI))=some (.tup ((Ord.ER x y).map tupI));rw [EK (by rw [length_map,length_map,length_map]; omega)];unfold Ord.ER;rw [map_append,List.map_id]
theorem ZU(h:Sd x y z){i j:Int}(hi:0<=i)(c:Cn z i j):(i<(x.length:Int)->j<(x.length:Int)/\Cn x i j)/\((x.length:Int)<=i->(x.length:Int)<=j/\Cn y (i - x.length) (j - x.length)):=by
 induction c with
 | refl=>exact ⟨λq=>⟨q,.refl _⟩,λq=>⟨q,.refl _⟩⟩
 | @step b c _ tie r1 r2 ih =>
  have hl:=h.len;have key:∀ {b c:Int},(0<=b/\b<(z.length:Int))->(0<=c/\c<(z.length:Int))->b∈row z c->(c<(x.length:Int)->b<(x.length:Int)/\b∈row x c)/\((x.length:Int)<=c->(x.length:Int)<=b/\b - x.length∈row y (c - x.length)):=λ{b c} rb rc m=>by
   refine ⟨λq=>?_,λq=>?_⟩
   .have m:=(h.lo c rc.1 q b).1 m;exact ⟨(h.rx c rc.1 q b m).2,m⟩
   .have m2:=h.hi (c - x.length) (by omega) (by omega) b;rw [show c - (x.length:Int)+x.length=c by omega] at m2;have m:=m2.1 m;have:=h.ry (c - x.length) (by omega) (by omega) _ m;exact ⟨by omega,m⟩
  refine ⟨λq=>?_,λq=>?_⟩
  .obtain ⟨i1,i2⟩:=ih.1 q;rcases tie with t | t
   .have k:=key r2 r1 t;by_cases c1:c<(x.length:Int)
    .exact ⟨c1,.step i2 (.inl (k.1 c1).2) ⟨r1.1,c1⟩ ⟨r2.1,i1⟩⟩
    .have:=(k.2 (by omega)).1; omega
   .have k:=key r1 r2 t;obtain ⟨c1,m⟩:=k.1 i1;exact ⟨c1,.step i2 (.inr m) ⟨r1.1,c1⟩ ⟨r2.1,i1⟩⟩
  .obtain ⟨i1,i2⟩:=ih.2 q;rcases tie with t | t
   .have k:=key r2 r1 t;by_cases c1:c<(x.length:Int)
    .have:=(k.1 c1).1; omega
    .exact ⟨by omega,.step i2 (.inl (k.2 (by omega)).2) ⟨by omega,by omega⟩ ⟨by omega,by omega⟩⟩
   .have k:=key r1 r2 t;obtain ⟨c1,m⟩:=k.2 i1;exact ⟨c1,.step i2 (.inr m) ⟨by omega,by omega⟩ ⟨by omega,by omega⟩⟩
theorem aFR(h:Sd x y z){i j:Int}(c:Cn x i j):Cn z i j:=by
 have hl:=h.len
 induction c with
 | refl=>exact .refl _
 | @step b c _ tie r1 r2 ih=>exact .step ih (tie.imp (λt=>(h.lo c r1.1 r1.2 b).2 t) λt=>(h.lo b r2.1 r2.2 c).2 t) ⟨r1.1,by omega⟩ ⟨r2.1,by omega⟩
theorem aFS(h:Sd x y z){i j:Int}(c:Cn y i j):Cn z (i+x.length) (j+x.length):=by
 have hl:=h.len
 induction c with
 | refl=>exact .refl _
 | @step b c _ tie r1 r2 ih =>
  refine .step ih (tie.imp (λt=>(h.hi c r1.1 r1.2 _).2 ?_) λt=>(h.hi b r2.1 r2.2 _).2 ?_) ⟨by omega,by omega⟩ ⟨by omega,by omega⟩
  .rw [show b+(x.length:Int) - x.length=b by omega]; exact t
  .rw [show c+(x.length:Int) - x.length=c by omega]; exact t
theorem ZV(p q:List Int):(bT (p.map (λa=>2*a)++q.map λa=>2*a+1)).length=(bT p).length+(bT q).length:=by
 have pm:(bT (p.map (λa=>2*a)++q.map λa=>2*a+1)).Perm ((bT p).map (λa=>2*a)++(bT q).map λa=>2*a+1):=by
  refine (List.perm_ext_iff_of_nodup (gY _).1 ?_).2 λv=>?_
  .rw [nodup_append];refine ⟨?_,?_,λa ha b hb e=>?_⟩
   .rw [List.Nodup,pairwise_map];exact (gY p).1.imp λh e=>h (by omega)
   .rw [List.Nodup,pairwise_map];exact (gY q).1.imp λh e=>h (by omega)
   .obtain ⟨a',_,rfl⟩:=List.mem_map.1 ha;obtain ⟨b',_,rfl⟩:=List.mem_map.1 hb;omega
  .rw [(gY _).2,mem_append,mem_append,mem_map,mem_map,mem_map,mem_map];simp only [(gY _).2]
 rw [pm.length_eq,List.length_append,length_map,length_map]
theorem ZW(h:Sd x y z){P Q R:List Int}(hP:W5 x P)(hQ:W5 y Q)(hR:W5 z R):(bT R).length=(bT P).length+(bT Q).length:=by
 rw [<- ZV];have hl:=h.len;have lp:=hP.len;have lq:=hQ.len;have lr:=hR.len;have lT:(P.map (λa=>2*a)++Q.map λa=>2*a+1).length=z.length:=by rw [List.length_append,length_map,length_map]; omega
 have t1:∀ i:Int,0<=i->i<(x.length:Int)->at0 (P.map (λa=>2*a)++Q.map λa=>2*a+1) i=2*at0 P i:=λi i0 i1=>by unfold at0;rw [getElem?_append_left (by rw [length_map]; omega),getElem?_map,getElem?_eq_getElem (by omega)];rfl
 have t2:∀ i:Int,(x.length:Int)<=i->i<(z.length:Int)->at0 (P.map (λa=>2*a)++Q.map λa=>2*a+1) i=2*at0 Q (i - x.length)+1:=λi i0 i1=>by unfold at0;rw [getElem?_append_right (by rw [length_map]; omega),getElem?_map,length_map,show i.toNat - P.length=(i - (x.length:Int)).toNat by omega,getElem?_eq_getElem (by omega)];rfl
 refine Nat.le_antisymm (D1 id (λi i0 i1=>⟨i0,by rw [lT]; simp only [id]; omega⟩) λi j i0 i1 j0 j1 e=>?_) (D1 id (λi i0 i1=>⟨i0,by simp only [id]; omega⟩) λi j i0 i1 j0 j1 e=>?_)
 .simp only [id] at e;refine (hR.eq i j i0 (by omega) j0 (by omega)).2 ?_;by_cases a:i<(x.length:Int)
  .by_cases b:j<(x.length:Int)
   .rw [t1 i i0 a,t1 j j0 b] at e;exact aFR h ((hP.eq i j i0 a j0 b).1 (by omega))
   .rw [t1 i i0 a,t2 j (by omega) (by omega)] at e; omega
  .by_cases b:j<(x.length:Int)
   .rw [t2 i (by omega) (by omega),t1 j j0 b] at e; omega
   .rw [t2 i (by omega) (by omega),t2 j (by omega) (by omega)] at e;have:=aFS h ((hQ.eq (i - x.length) (j - x.length) (by omega) (by omega) (by omega) (by omega)).1 (by omega))
    rwa [show i - (x.length:Int)+x.length=i by omega,show j - (x.length:Int)+x.length=j by omega] at this
 .simp only [id] at e;rw [lT] at i1 j1;have c:=(hR.eq i j i0 (by omega) j0 (by omega)).1 e;have k:=ZU h i0 c;by_cases a:i<(x.length:Int)
  .obtain ⟨b,c2⟩:=k.1 a;rw [t1 i i0 a,t1 j j0 b,(hP.eq i j i0 a j0 b).2 c2]
  .obtain ⟨b,c2⟩:=k.2 (by omega);rw [t2 i (by omega) (by omega),t2 j b (by omega),(hQ.eq _ _ (by omega) (by omega) (by omega) (by omega)).2 c2]
structure Nw (n:Nat) (w:List Int):Prop where
 pm:w.Perm (aW 0 n)
theorem Nw.len{n:Nat}{w:List Int}(h:Nw n w):w.length=n:=by rw [h.pm.length_eq,aN]
theorem Nw.nd{n:Nat}{w:List Int}(h:Nw n w):w.Nodup:=h.pm.nodup_iff.2 (tK _)
theorem Nw.to{n:Nat}{w:List Int}(h:Nw n w){b:Int}(h0:0<=b)(h1:b<(n:Int)):(0<=at0 w b/\at0 w b<(n:Int))/\((w.idxOf (at0 w b):Nat):Int)=b:=by
 have hl:=h.len;have hb:b.toNat<w.length:=by omega
 have e:at0 w b=w[b.toNat]:=by unfold at0; rw [getElem?_eq_getElem hb]; rfl
 rw [e];have:=bG.1 (h.pm.mem_iff.1 (getElem_mem hb));refine ⟨by omega,?_⟩;rw [List.Nodup.idxOf_getElem h.nd b.toNat hb];omega
theorem Nw.back{n:Nat}{w:List Int}(h:Nw n w){t:Int}(h0:0<=t)(h1:t<(n:Int)):((w.idxOf t:Nat):Int)<(n:Int)/\at0 w (w.idxOf t)=t:=by have hm:t∈w:=h.pm.mem_iff.2 (bG.2 (by omega));have hlt:w.idxOf t<w.length:=List.idxOf_lt_length_iff.2 hm;have hl:=h.len;refine ⟨by omega,?_⟩;unfold at0;rw [Int.toNat_natCast,getElem?_eq_getElem hlt,List.getElem_idxOf hlt];rfl
noncomputable def nr(z:List (List Int))(w:List Int)(b:Int):List Int:=sortI ((row z b).map (at0 w))
noncomputable def nm(z:List (List Int))(w:List Int):List (List Int):=(aW 0 z.length).map λt=>nr z w (w.idxOf t)
theorem yT(z:List (List Int))(w:List Int):(nm z w).length=z.length:=by unfold nm; rw [length_map,aN]
theorem VI{w:List Int}{t:Int}(h0:0<=t)(h1:t<(z.length:Int)):row (nm z w) t=nr z w (w.idxOf t):=by unfold nm row;rw [getElem?_map,iP (by omega)];show nr z w (w.idxOf (0+(t.toNat:Int)))=_;rw [show (0:Int)+(t.toNat:Int)=t by omega]
theorem VJ{w:List Int}{b c:Int}:c∈nr z w b ↔ ∃ a∈row z b,at0 w a=c:=by unfold nr;rw [(sortI_perm _).mem_iff,mem_map]
theorem yU{w:List Int}(hz:Ord.Rows z)(h:Nw z.length w){s t:Int}(s0:0<=s)(s1:s<(z.length:Int))(t0:0<=t)(t1:t<(z.length:Int)):s∈row (nm z w) t↔((w.idxOf s:Nat):Int)∈row z (w.idxOf t):=by
 rw [VI t0 t1,VJ];have bt:=h.back t0 t1
 constructor
 .rintro ⟨a,ha,rfl⟩;have ra:=u9.nO hz (by omega) bt.1 ha;rw [(h.to ra.1 ra.2).2];exact ha
 .intro m;exact ⟨_,m,(h.back s0 s1).2⟩
theorem ZX{w:List Int}(hz:Ord.Rows z)(h:Nw z.length w):Ord.Rows (nm z w):=by
 have hl:=yT z w;have get:∀ (b:Nat) (r:List Int),(nm z w)[b]? = some r->b<z.length/\r=nr z w (w.idxOf (b:Int)):=λb r e=>by
  have hb:b<z.length:=by rw [<- hl]; exact (List.getElem?_eq_some_iff.1 e).1
  unfold nm at e;rw [getElem?_map,iP hb] at e;have e:=Option.some.inj e;rw [<- e,Int.zero_add];exact ⟨hb,rfl⟩
 have rg:∀ (b:Nat) (r:List Int),(nm z w)[b]? = some r -> ∀ a∈r,0<=a/\a<(z.length:Int):=λb r e a ha=>by obtain ⟨hb,rfl⟩:=get b r e;have bb:=h.back (t:=(b:Int)) (by omega) (by omega);obtain ⟨c,hc,rfl⟩:=VJ.1 ha;have rc:=u9.nO hz (by omega) bb.1 hc;exact (h.to rc.1 rc.2).1
 have mm:∀ (b:Nat) (r:List Int),(nm z w)[b]? = some r -> ∀ a:Int,0<=a->a<(z.length:Int)->(a∈r↔((w.idxOf a:Nat):Int)∈row z (w.idxOf (b:Int))):=λb r e a a0 a1=>by obtain ⟨hb,rfl⟩:=get b r e;rw [<- VI (by omega) (by omega)];exact yU hz h a0 a1 (by omega) (by omega)
 refine ⟨λb r e=>?_,λb r e a ha=>by rw [hl]; exact rg b r e a ha,λb a r v e1 e2 e3 c hc=>?_,λb r e hb=>?_⟩
 .obtain ⟨hb,rfl⟩:=get b r e;have bb:=h.back (t:=(b:Int)) (by omega) (by omega);have nd:((row z (w.idxOf (b:Int))).map (at0 w)).Nodup:=by rw [List.Nodup,pairwise_map];refine List.Pairwise.imp_of_mem ?_ (hz.up _ _ (K45.iD (by omega) bb.1));intro p q hp hq lt e;have rp:=u9.nO hz (by omega) bb.1 hp;have rq:=u9.nO hz (by omega) bb.1 hq;have:=(h.to rp.1 rp.2).2;rw [e,(h.to rq.1 rq.2).2] at this;omega
  have nd2:(nr z w (w.idxOf (b:Int))).Nodup:=(sortI_perm _).nodup_iff.2 nd;exact ((mD _).and nd2).imp λ{p q} hpq=>by have:=hpq.1; have:=hpq.2; omega
 .have ra:=rg b r e1 a e2;have rc:=rg a v e3 c hc;refine (mm b r e1 c rc.1 rc.2).2 ?_;have x1:=(mm b r e1 a ra.1 ra.2).1 e2;have x2:=(mm a v e3 c rc.1 rc.2).1 hc;have hb:=(get b r e1).1;have bb:=h.back (t:=(b:Int)) (by omega) (by omega);exact u9.aDW hz (by omega) bb.1 x1 x2
 .have hb2:=(get b r e).1;have x1:=(mm b r e b (by omega) (by omega)).1 hb;have bb:=h.back (t:=(b:Int)) (by omega) (by omega);have:=hz.W3 (w.idxOf (b:Int)) (row z (w.idxOf (b:Int))) (K45.iD (b:=((w.idxOf (b:Int):Nat):Int)) (by omega) bb.1);exact this x1
theorem aFT{w:List Int}(hz:Ord.Rows z)(h:Nw z.length w){s t:Int}(c:Cn (nm z w) s t):Cn z (w.idxOf s) (w.idxOf t):=by
 have hl:=yT z w
 induction c with
 | refl=>exact .refl _
 | @step b c _ tie r1 r2 ih =>
  rw [hl] at r1 r2;exact .step ih (tie.imp (λm=>(yU hz h r2.1 r2.2 r1.1 r1.2).1 m) λm=>(yU hz h r1.1 r1.2 r2.1 r2.2).1 m) ⟨by omega,(h.back r1.1 r1.2).1⟩ ⟨by omega,(h.back r2.1 r2.2).1⟩
theorem aFU{w:List Int}(hz:Ord.Rows z)(h:Nw z.length w){s t:Int}(c:Cn z s t):Cn (nm z w) (at0 w s) (at0 w t):=by
 have hl:=yT z w
 induction c with
 | refl=>exact .refl _
 | @step b c _ tie r1 r2 ih =>
  have tb:=h.to r2.1 r2.2;have tc:=h.to r1.1 r1.2;refine .step ih (tie.imp (λm=>(yU hz h tb.1.1 tb.1.2 tc.1.1 tc.1.2).2 ?_) λm=>(yU hz h tc.1.1 tc.1.2 tb.1.1 tb.1.2).2 ?_) (by rw [hl]; exact tc.1) (by rw [hl]; exact tb.1)
  .rw [tb.2,tc.2]; exact m
  .rw [tb.2,tc.2]; exact m
theorem aCa{w:List Int}(hz:Ord.Rows z)(h:Nw z.length w){R R':List Int}(hR:W5 z R)(hR':W5 (nm z w) R'):(bT R').length=(bT R).length:=by
 have hl:=yT z w;have l1:=hR.len;have l2:=hR'.len;refine Nat.le_antisymm (D1 (λt=>(w.idxOf t:Nat)) (λi i0 i1=>⟨by omega,by rw [l1]; exact (h.back i0 (by omega)).1⟩) λi j i0 i1 j0 j1 e=>?_) (D1 (λt=>at0 w t) (λi i0 i1=>by rw [l2,hl]; exact (h.to i0 (by omega)).1) λi j i0 i1 j0 j1 e=>?_)
 .have c:=(hR.eq _ _ (by omega) (h.back i0 (by omega)).1 (by omega) (h.back j0 (by omega)).1).1 e;have:=aFU hz h c;rw [(h.back i0 (by omega)).2,(h.back j0 (by omega)).2] at this;exact (hR'.eq i j i0 (by omega) j0 (by omega)).2 this
 .have ti:=h.to i0 (show i<(z.length:Int) by omega);have tj:=h.to j0 (show j<(z.length:Int) by omega);have c:=(hR'.eq _ _ ti.1.1 (by rw [hl]; exact ti.1.2) tj.1.1 (by rw [hl]; exact tj.1.2)).1 e;have:=aFT hz h c;rw [ti.2,tj.2] at this;exact (hR.eq i j i0 (by omega) j0 (by omega)).2 this
theorem ZY{i:Nat}{X:XF}{k:EF}{ρ:aS}{ds:List D}{v:D}{kk:Int}(h1:X ρ=some (ρ,v))(h2:ρ[i]? = some (.ow (.lst ds)))(h3:k (bU ρ)=some (.int kk))(h0:0<=kk)(hk:kk<(ds.length:Int)):B3 i X k ρ=.nx (ρ.set i (.ow (.lst (ds.set kk.toNat v)))):=by
 have hj:MW ds.length kk=some kk.toNat:=by unfold MW;rw [if_pos h0,if_pos hk]
 unfold B3;rw [h1];simp only [Option.bind_some];rw [h2,h3];simp only [lY,Option.bind_some,asInt];rw [hj];rfl
theorem aKv(n:Nat)(h:n<=1000):repLM (.lst [.tup []]) (.int (n:Int))=some (.lst (List.replicate n (.tup []))):=by
 show (if _ then _ else _)=_;rw [if_pos ⟨by simp [pE]; omega,by omega⟩];congr 2;simp only [Int.toNat_natCast]
 induction n with
 | zero=>rfl
 | succ n ih=>rw [replicate_succ,flatten_cons,ih (by omega)]; rfl
noncomputable def G8(z:List (List Int))(w:List Int)(i:Nat):List (List Int):=(aW 0 z.length).map λt=>if w.idxOf t<i then nr z w (w.idxOf t) else []
theorem VL{w:List Int}(hz:Ord.Rows z)(hn:z.length<=9)(h:Nw z.length w):h9 [aO z,aG w]=.ok (aO (nm z w)):=by
 have hl:=h.len;unfold h9;refine SD rfl ?_;have e0:(G8 z w 0).map tupI=List.replicate z.length (.tup []):=by unfold G8;rw [map_map];refine List.eq_replicate_iff.2 ⟨by rw [length_map,aN],λd hd=>?_⟩;obtain ⟨t,_,rfl⟩:=List.mem_map.1 hd;rfl
 refine cD [.ro (aO z),.ro (aG w),.ow (.lst ((G8 z w 0).map tupI)),.no] (aD4 (d:=.lst ((G8 z w 0).map tupI)) (bW (x:=.lst [.tup []]) (y:=.int z.length) rfl (e9 (x:=aO z) rfl fR) ?_)) ?_
 .rw [e0];exact aKv z.length (by omega)
 refine nL (λρ=>∃ v3:Sv,ρ=[.ro (aO z),.ro (aG w),.ow (.lst ((G8 z w z.length).map tupI)),v3]) ?_ ?_
 .refine qB z.length (λi ρ=>∃ v3:Sv,ρ=[.ro (aO z),.ro (aG w),.ow (.lst ((G8 z w i).map tupI)),v3]) (args1 (e9 (x:=aO z) rfl fR)) (by omega) ⟨.no,rfl⟩ ?_ λρ h=>h;rintro i _ hi ⟨v3,rfl⟩;refine ⟨[.ro (aO z),.ro (aG w),.ow (.lst ((G8 z w i).map tupI)),.ro (.int i)],rfl,?_⟩;have ti:=h.to (b:=(i:Int)) (by omega) (by omega);have rl:=u9.RL hz (c:=(i:Int)) (by omega) (by omega);have ev:cN cQ (aA (cN fQ (aA (bQ 1 [1] (cK (aE eE (aB 0) (aB 3))) (g1 0) cL (aE eE (aB 1) (aB 0))) aC)) aC) (kC [.ro (aO z),.ro (aG w),.ow (.lst ((G8 z w i).map tupI)),.ro (.int i)])=some (tupI (nr z w i)):=by
   refine e9 (x:=aG (nr z w i)) (e9 (x:=aG ((row z i).map (at0 w))) (iO ((row z i).map D.int) ?_ (by rw [length_map]; omega) ?_) ?_) rfl
   .unfold cK;rw [bW (g:=eE) (a:=aB 0) (b:=aB 3) (x:=aO z) (y:=.int i) rfl rfl (CG (by omega) (by omega))];rfl
   .rw [map_map];refine eI D.int (D.int∘at0 w) (row z i) λa ha=>⟨[some (.int a),some (aG w)],rfl,?_⟩;have ra:=u9.nO hz (by omega) (by omega) ha;exact bW (x:=aG w) (y:=.int a) rfl rfl (CJ ra.1 (by omega))
   .show ((L4.intsOf (((row z i).map (at0 w)).map D.int)).bind λns=>if ns.length<64 then some (D.lst ((sortI ns).map D.int)) else none)=_;rw [LL.dO,Option.bind_some,if_pos (by rw [length_map]; omega)];rfl
  refine ⟨_,ZY (v:=tupI (nr z w i)) (kk:=at0 w i) (ds:=(G8 z w i).map tupI) ?_ rfl (bW (x:=aG w) (y:=.int i) rfl rfl (CJ (by omega) (by omega))) ti.1.1 (by rw [length_map]; unfold G8; rw [length_map,aN]; exact ti.1.2),.ro (.int i),?_⟩
  .unfold bX;rw [ev];rfl
  .have e:(G8 z w i).set (at0 w i).toNat (nr z w i)=G8 z w (i+1):=by
    refine ext_getElem? λj=>?_;unfold G8;rw [List.getElem?_set,length_map,aN];by_cases hj:j<z.length
    .rw [getElem?_map,getElem?_map,iP hj];simp only [Option.map_some,Int.zero_add];by_cases e:(at0 w i).toNat=j
     .have ej:(j:Int)=at0 w i:=by omega
      rw [if_pos e,if_pos (by omega),ej];have q:w.idxOf (at0 w i)=i:=by have:=ti.2; omega
      rw [q,if_pos (by omega)]
     .rw [if_neg e];have bj:=h.back (t:=(j:Int)) (by omega) (by omega);have ne:w.idxOf (j:Int)≠i:=λy=>e (by rw [<- y,bj.2]; omega);by_cases lt:w.idxOf (j:Int)<i
      .rw [if_pos lt,if_pos (by omega)]
      .rw [if_neg lt,if_neg (by omega)]
    .rw [getElem?_map,getElem?_map,getElem?_eq_none (by rw [aN]; omega)];rw [if_neg (by omega)];rfl
   show _=[Sv.ro (aO z),.ro (aG w),.ow (.lst ((G8 z w (i+1)).map tupI)),.ro (.int i)];rw [<- e,List.map_set];rfl
 .rintro _ ⟨v3,rfl⟩;have e:G8 z w z.length=nm z w:=by unfold G8 nm;refine map_congr_left λt ht=>?_;have:=bG.1 ht;have:=(h.back (t:=t) (by omega) (by omega)).1;rw [if_pos (by omega)]
  rw [e];exact nM (aO (nm z w)) (e9 (x:=.lst ((nm z w).map tupI)) rfl rfl) rfl
theorem aKw{i:Nat}{fa fb:EF}{ρ:aS}{l:List Int}{k d:Int}(h0:lY ρ[i]? = some (l.map D.int))(ha:fa (bU ρ)=some (.int k))(hb:fb (bU ρ)=some (.int d))(k0:0<=k)(k1:k<=(l.length:Int))(hl:l.length<1000) :
  sX (Q0 i fa fb) ρ=.nx (ρ.set i (.ow (aG (l.take k.toNat++d::l.drop k.toNat)))):=by
 unfold sX Q0;rw [h0,Option.bind_some,ha,Option.bind_some,show asInt (.int k)=some k from rfl,Option.bind_some,hb,Option.bind_some,if_pos ⟨rfl,k0,by rw [length_map]; exact k1,by rw [length_map]; exact Nat.lt_of_lt_of_le hl (by decide)⟩];show Out.nx (ρ.set i _)=Out.nx (ρ.set i _);unfold aG;rw [map_append,map_cons,List.map_take,List.map_drop]
theorem few{y:List (List Int)}(hy:Ord.Rows y)(hl:y.length<=9):∀ r∈y,r.length<=9:=λr hr=>by
 obtain ⟨i,hi,rfl⟩:=getElem_of_mem hr;have:=u9.RL hy (c:=(i:Int)) (by omega) (by omega);have e:row y (i:Int)=y[i]:=by unfold row; rw [Int.toNat_natCast,getElem?_eq_getElem hi]; rfl
 rw [e] at this;omega
noncomputable abbrev SL(ns:List Int)(x:List (List Int))(p:Int)(one oth bth:List (List Int))(k:Int)(v8 v9 v10:Sv):aS:=[.ro (.kZ ns),.ro (aO x),.ro (.int p),.ro (tupI (vA.gA x)),.ro (aO one),.ro (aO oth),.ro (aO bth),.ro (.int k),v8,v9,v10]
theorem VM(ns:List Int)(hns:ns.length<=63):rL [.kZ ns]=.ok (.bl true):=by
 obtain ⟨_,ed,x,hxl,hx,rfl⟩:=xH ns 0 9 100003 (by decide) (by decide);obtain ⟨_,ed1,one,hol,ho,rfl⟩:=xH ns 10 4 200017 (by decide) (by decide);obtain ⟨_,ed2,oth,htl,ht,rfl⟩:=xH ns 20 4 300007 (by decide) (by decide);have hn:x.length<=9:=by omega
 obtain ⟨k,ek,hk⟩:=vA.aAy ns 30 400009;have sd:=ZT ho ht;have hb:=Ord.Rows.side ho ht;have bl:(Ord.side one oth).length<=9:=by rw [sd.len]; omega
 obtain ⟨P,hP,ep⟩:=lM hx hn;have fp:=yS hx hn hP;obtain ⟨P1,hP1,_⟩:=lM ho (by omega);have f1:=yS ho (by omega) hP1;obtain ⟨P2,hP2,_⟩:=lM ht (by omega);have f2:=yS ht (by omega) hP2;obtain ⟨Pb,hPb,epb⟩:=lM hb bl;have two:=ZW sd hP1 hP2 hPb;have ec:=HZ sd k;have aFV:∀ {u:List (List Int)},u.length<=9->Bg 1970 (DV u.length 0 (shares u) k):=λ{u} hu=>by have hl:=kR u;exact (RV (a:=30) (b:=1900) (λd hd=>(aAK (E3 hk (by omega) (by omega)) (by omega)).mono (by omega)) (shares u) 0 (by omega) (HW hu)).mono (by omega)
 have u1:=aFV (u:=one) (by omega);have u2:=aFV (u:=oth) (by omega);obtain ⟨c,ecl⟩:=rG ns 33;obtain ⟨dr,hdr,_,edr⟩:=rH c (Ord.side one oth).length 500009 (by omega) (by omega);have sm:∀ v:Int,bI 6 [.int v,.int v]=.ok (.bl true):=λv=>same_refl 6 _ (by trivial);have pl:(bT P).length<=x.length:=by have l:=hP.len;obtain ⟨n1,m1⟩:=gY P;have:=Ord.dH (bT P) P n1 λt ht=>(m1 t).1 ht;omega
 have low:=SJ (x:=x) (P:=at0 P) (λb b0 b1 a ha=>by
  have ra:=u9.nO hx b0 b1 ha;exact ⟨ra,(hP.eq a b ra.1 ra.2 b0 b1).2 (.step (.refl _) (.inl ha) ⟨b0,b1⟩ ra)⟩) (vs:=bT P) (gY P).1 (λv hv=>by
  obtain ⟨i,hi,rfl⟩:=getElem_of_mem (((gY P).2 v).1 hv);have l:=hP.len;refine ⟨i,by omega,by omega,?_⟩;unfold at0;rw [Int.toNat_natCast,getElem?_eq_getElem hi];rfl) λt t0 t1=>((gY P).2 _).2 (by
  have l:=hP.len;unfold at0;rw [getElem?_eq_getElem (by omega)];exact getElem_mem _)
 have pxl:=vA.CZ x;unfold rL;refine SD rfl ?_;refine cD [.ro (.kZ ns),.ro (aO x),.no,.no,.no,.no,.no,.no,.no,.no,.no] (fM (aO x) (HJ rfl rfl rfl rfl ed) rfl) ?_;refine cD [.ro (.kZ ns),.ro (aO x),.ro (.int (bT P).length),.no,.no,.no,.no,.no,.no,.no,.no] (fM (.int (bT P).length) (gX rfl fp) rfl) ?_;refine cD [.ro (.kZ ns),.ro (aO x),.ro (.int (bT P).length),.ro (tupI (vA.gA x)),.no,.no,.no,.no,.no,.no,.no] (fM (tupI (vA.gA x)) (gX rfl (zL hn (few hx hn))) rfl) ?_;have tup:=vA.R7 (xs:=vA.gA x) (by omega);rw [pxl] at tup;refine cD _ (xC (aDR (b:=false) (tnE (b:=true) (AK (d:=.bl true) (dP (gX rfl ep) rfl (sm _)) rfl) rfl) (λ_=>tnE (b:=true) (AK (d:=.bl true) (dP (x:=tupI (vA.gA x)) (y:=.int ((x.length+1:Nat):Int)) rfl (bW (x:=.int x.length) (y:=.int 1) (e9 (x:=aO x) rfl fR) rfl rfl) tup) rfl) rfl) λh=>by cases h) rfl) ?_;refine cD _ (xC (AK (d:=.bl false) (e9 (x:=.lst (((aW 0 (bT P).length).map λ_=>false).map D.bl)) (iO ((aW 0 (bT P).length).map D.int) (aAF (aDP (x:=.int (bT P).length) (y:=.int (vA.gA x).length) rfl (e9 (x:=tupI (vA.gA x)) rfl X4) ?_) (by omega)) (by rw [length_map,aN]; omega) ?_) ?_) rfl) rfl) ?_
 .show some (D.int (if ((vA.gA x).length:Int)<((bT P).length:Int) then ((vA.gA x).length:Int) else ((bT P).length:Int)))=_;rw [if_neg (by omega)]
 .rw [map_map];refine eI D.int (D.bl∘λ_=>false) (aW 0 (bT P).length) λi hi=>⟨[some (.int i),some (tupI (vA.gA x))],rfl,?_⟩;have hi:=bG.1 hi;have z:=low i.toNat (by omega);rw [show ((i.toNat:Nat):Int)=i by omega] at z;refine bW (x:=.int (at0 (vA.gA x) i)) (y:=.int 0) (bW (x:=tupI (vA.gA x)) (y:=.int i) rfl rfl (RN (by omega) (by omega))) rfl ?_;rw [z];rfl
 .show (L4.nF (((aW 0 (bT P).length).map λ_=>false).map D.bl)).map (λbs=>D.bl (bs.any id))=_;rw [LL.tG];show some (D.bl (((aW 0 (bT P).length).map λ_=>false).any id))=_;congr 2;rw [List.any_eq_false];intro b hb;obtain ⟨_,_,rfl⟩:=List.mem_map.1 hb;simp
 refine cD [.ro (.kZ ns),.ro (aO x),.ro (.int (bT P).length),.ro (tupI (vA.gA x)),.ro (aO one),.no,.no,.no,.no,.no,.no] (fM (aO one) (HJ rfl rfl rfl rfl ed1) rfl) ?_;refine cD [.ro (.kZ ns),.ro (aO x),.ro (.int (bT P).length),.ro (tupI (vA.gA x)),.ro (aO one),.ro (aO oth),.no,.no,.no,.no,.no] (fM (aO oth) (HJ rfl rfl rfl rfl ed2) rfl) ?_;refine cD [.ro (.kZ ns),.ro (aO x),.ro (.int (bT P).length),.ro (tupI (vA.gA x)),.ro (aO one),.ro (aO oth),.ro (aO (Ord.side one oth)),.no,.no,.no,.no] (fM (aO (Ord.side one oth)) (dP rfl rfl (OX ho ht (by omega) (by omega))) rfl) ?_;refine cD (SL ns x (bT P).length one oth (Ord.side one oth) k .no .no .no) (fM (.int k) (jR rfl rfl rfl ek) rfl) ?_;refine cD _ (xC (AK (d:=.bl false) (bW (x:=.int (DV (Ord.side one oth).length 0 (shares (Ord.side one oth)) k)) (y:=.int (DV one.length 0 (shares one) k*DV oth.length 0 (shares oth) k)) (dP rfl rfl (nV bl (few hb bl) hk)) (bW (x:=.int (DV one.length 0 (shares one) k)) (y:=.int (DV oth.length 0 (shares oth) k)) (dP rfl rfl (nV (by omega) (few ho (by omega)) hk)) (dP rfl rfl (nV (by omega) (few ht (by omega)) hk)) (KN (p:=1970) (q:=1970) (by omega) (by omega) u1 u2)) ?_) rfl) rfl) ?_
 .rw [ec];show some (D.bl (!decide (DV one.length 0 (shares one) k*DV oth.length 0 (shares oth) k=DV one.length 0 (shares one) k*DV oth.length 0 (shares oth) k)))=_;rw [decide_eq_true rfl];rfl
 refine cD (SL ns x (bT P).length one oth (Ord.side one oth) k (.ow (aG [])) .no .no) rfl ?_;refine nL (λρ=>∃ (w:List Int) (v9:Sv),Nw (Ord.side one oth).length w/\ρ=SL ns x (bT P).length one oth (Ord.side one oth) k (.ow (aG w)) v9 .no) ?_ ?_
 .refine xG (dr.map D.int) (λi ρ=>∃ (w:List Int) (v9:Sv),Nw i w/\ρ=SL ns x (bT P).length one oth (Ord.side one oth) k (.ow (aG w)) v9 .no) ?_ ⟨[],.no,⟨by unfold aW; exact .refl _⟩,rfl⟩ ?_ ?_
  .unfold cK;rw [jR (x:=.int c) (y:=.int (Ord.side one oth).length) (z:=.int 500009) (dP rfl rfl ecl) (e9 (x:=aO (Ord.side one oth)) rfl fR) rfl edr];rfl
  .rintro i d _ hd ⟨w,v9,hw,rfl⟩;rw [getElem?_map] at hd;obtain ⟨y,hy,rfl⟩:=Option.map_eq_some_iff.1 hd;have hi:i<dr.length:=(List.getElem?_eq_some_iff.1 hy).1;have wl:=hw.len;have m0:=Int.emod_nonneg y (show ((w.length:Int)+1)≠0 by omega);have m1:=Int.emod_lt_of_pos y (show (0:Int)<(w.length:Int)+1 by omega);refine ⟨SL ns x (bT P).length one oth (Ord.side one oth) k (.ow (aG w)) (.ro (.int y)) .no,rfl,_,aKw (l:=w) (k:=y % ((w.length:Int)+1)) (d:=w.length) rfl (bW (x:=.int y) (y:=.int ((w.length:Int)+1)) rfl (bW (x:=.int w.length) (y:=.int 1) (e9 (x:=aG w) rfl vT) rfl rfl) (dI (by omega))) (e9 (x:=aG w) rfl vT) m0 (by omega) (by omega),_,.ro (.int y),⟨?_⟩,rfl⟩;have e:aW 0 (i+1)=aW 0 i++[(i:Int)]:=by unfold aW; rw [List.range_succ,map_append]; simp
   rw [e,wl];have p1:(w.take (y % ((i:Int)+1)).toNat++(i:Int)::w.drop (y % ((i:Int)+1)).toNat).Perm (w++[(i:Int)]):=by refine List.perm_middle.trans ?_;rw [List.take_append_drop];exact (List.perm_append_singleton _ _).symm
   exact p1.trans (hw.pm.append_right _)
  .rintro ρ ⟨w,v9,hw,rfl⟩;rw [length_map,hdr,Int.toNat_natCast] at hw;exact ⟨w,v9,hw,rfl⟩
 rintro _ ⟨w,v9,hw,rfl⟩;have nR:=ZX hb hw;have nl:=yT (Ord.side one oth) w;obtain ⟨Pn,hPn,epn⟩:=lM nR (by omega);have same:=aCa hb hw hPb hPn;refine cD (SL ns x (bT P).length one oth (Ord.side one oth) k (.ow (aG w)) v9 (.ro (.int ((bT P1).length+(bT P2).length)))) (fM (.int ((bT P1).length+(bT P2).length)) (bW (x:=.int (bT P1).length) (y:=.int (bT P2).length) (gX rfl f1) (gX rfl f2) rfl) rfl) ?_;have e2:((bT Pb).length:Int)=((bT P1).length:Int)+(bT P2).length:=by omega
 refine cD _ (xC (tnE (b:=true) (AK (d:=.bl true) (dP (x:=.int (bT Pb).length) (y:=.int ((bT P1).length+(bT P2).length)) (gX rfl epb) rfl (by rw [e2]; exact sm _)) rfl) rfl) rfl) ?_;refine nM (.bl true) ?_ rfl;have c1:aI (LL.bI 6) (aA (aI cB (aA (aI h9 (aA (aB 6) (aA (aB 8) aC))) aC)) (aA (aB 10) aC)) (bU (SL ns x (bT P).length one oth (Ord.side one oth) k (.ow (aG w)) v9 (.ro (.int ((bT P1).length+(bT P2).length)))))=some (.bl true):=dP (x:=.int (bT Pn).length) (y:=.int ((bT P1).length+(bT P2).length)) (gX (x:=aO (nm (Ord.side one oth) w)) (dP (x:=aO (Ord.side one oth)) (y:=aG w) rfl rfl (VL hb bl hw)) epn) rfl (by rw [same,e2]; exact sm _);have c2:aI (LL.bI 6) (aA (aI cB (aA (aB 1) aC)) (aA (aB 2) aC)) (bU (SL ns x (bT P).length one oth (Ord.side one oth) k (.ow (aG w)) v9 (.ro (.int ((bT P1).length+(bT P2).length)))))=some (.bl true):=dP (gX rfl ep) rfl (sm _);unfold mY;rw [c1,c2];rfl
end
end K26
end
section
namespace L4
open PySem PySem.Spec PyProof.Rows L2 L3 PySem.W Att
section
variable{prog:Program}{w:World}{A:Around}{s:Shared}{Q:Bool->Shared->Prop}
theorem aCb:∀ (us:List Value) (vs:List Value) (as bs:List Int) (i:Nat) (fin:Bool),(fin=decide (us.length<vs.length))->IntsAre us as->IntsAre vs bs->Q (iU as bs) s->KatLex prog w A true fin Q (us.zip vs) i s:=by
 intro us
 induction us with
 | nil =>
  intro vs as bs i fin hf ha hb q;cases ha
  cases hb with
  | nil=>subst hf; exact q
  | cons b t' hb=>subst hf; simpa [KatLex,iU] using q
 | cons u us ih =>
  intro vs as bs i fin hf ha hb q
  cases ha with
  | cons a t ha =>
   cases hb with
   | nil=>subst hf; simpa [KatLex,iU] using q
   | cons b t' hb =>
    rename_i as vs bs;refine kat_cons (wpAny_eqBool_int (kat_go (λe=>?_) (λe=>?_)))
    .have e:a=b:=by simpa using e
     refine kat_yes (ih _ _ _ (i+1) fin (by rw [hf]; simp) ha hb ?_);simpa [iU,e] using q
    .have e:a≠b:=by simpa using e
     have q:Q (decide (a<b)) s:=by simpa [iU,e] using q
     refine kat_no ?_
     cases hc:(true&&i == 0) with
     | true=>exact oneLt_int q
     | false=>exact kat_one _ _ (lt_int q)
end
noncomputable def MG(n:Nat){α:Type}:KasT α->(α->Prop)->Prop
 | .ret a,Q=>Q a
 | .ask i j k,Q=>i<n/\j<n /\ ∀ b,MG n (k b) Q
theorem lN{n:Nat}{α β:Type}{f:α->KasT β}{Q:β->Prop}:∀ (t:KasT α),MG n t (λa=>MG n (f a) Q)->MG n (t.bind f) Q
 | .ret a,h=>h
 | .ask i j k,h=>⟨h.1,h.2.1,λb=>lN (k b) (h.2.2 b)⟩
noncomputable def Rg(n:Nat)(p:Array Nat):Prop:=p.Perm (List.toArray (List.range n))
theorem Rg.lt{n:Nat}{p:Array Nat}(h:Rg n p)(h1:1<=n)(k:Nat):p.getD k 0<n:=by
 rw [i5]
 cases q:p[k]? with
 | none=>exact h1
 | some x =>
  have:x∈p:=Array.mem_of_getElem? q;have:=h.mem_iff.mp this;simpa using this
section
variable{n:Nat}
theorem D2{p:Array Nat}(h1:1<=n)(h:Rg n p){Q:Nat->Prop}(q:∀ m,Q m):∀ f m,MG n (kas_asc p f m) Q
 | 0,m=>q m
 | f+1,m=>⟨h.lt h1 _,h.lt h1 _,λb=>by
  cases b with
  | true=>exact q m
  | false=>exact D2 h1 h q f (m+1)⟩
theorem sF(h1:1<=n){Q:Array Nat×Nat×Nat->Prop}(q:∀ r,Rg n r.1->Q r):∀ f p m k,Rg n p->MG n (kas_desc f p m k) Q
 | 0,p,m,k,h=>q _ h
 | f+1,p,m,k,h=>⟨h.lt h1 _,h.lt h1 _,λb=>by
  cases b with
  | true =>
   show MG n (if k>0 then _ else _) Q;by_cases hk:k>0
   .rw [if_pos hk]; exact sF h1 q f _ _ _ ((gL _ _ _).trans h)
   .rw [if_neg hk]; exact sF h1 q f _ _ _ h
  | false=>exact ⟨h.lt h1 _,h.lt h1 _,λd=>by
    cases d with
    | true=>exact q _ h
    | false=>exact sF h1 q f _ _ _ h⟩⟩
theorem GN(h1:1<=n){Q:Nat×Array Nat->Prop}(q:∀ r,Rg n r.2->Q r){m k:Nat}{p:Array Nat}(h:Rg n p):MG n (kas_tail3 m k p) Q :=
 lN _ (D2 h1 ((gL _ _ _).trans h) (λm'=>q (m',kas_rev p 0 m) ((gL _ _ _).trans h)) _ _)
theorem sG(h1:1<=n){Q:Nat×Array Nat->Prop}(q:∀ r,Rg n r.2->Q r){m k:Nat}{p:Array Nat}(h:Rg n p):MG n (kas_descPart m k p) Q :=
 lN _ (sF h1 (λr hr=>by
  by_cases hk:r.2.2>0
  .rw [if_pos hk]; exact GN h1 q ((gL _ _ _).trans hr)
  .rw [if_neg hk]; exact GN h1 q hr) _ _ _ _ h)
theorem OY(h1:1<=n){Q:Nat×Array Nat->Prop}(q:∀ r,Rg n r.2->Q r){k:Nat}{p:Array Nat}(h:Rg n p):MG n (kas_count k p) Q :=
 lN _ (D2 h1 h (λm=>by
  by_cases e:(m == k)=true
  .rw [if_pos e]; exact q _ h
  .rw [if_neg e];by_cases e2:m>1
   .rw [if_pos e2];exact ⟨h.lt h1 _,h.lt h1 _,λc=>by
     cases c with
     | true=>exact q _ h
     | false=>exact sG h1 q ((gL _ _ _).trans h)⟩
   .rw [if_neg e2]; exact sG h1 q h) _ _)
theorem tT(h1:1<=n){p:Array Nat}(h:Rg n p){Q:Nat->Prop}(q:∀ m,Q m)(k:Nat):∀ f l r,MG n (kas_place p k f l r) Q
 | 0,l,r=>q l
 | f+1,l,r=>by
  unfold kas_place;by_cases e:l >= r
  .rw [if_pos e]; exact q l
  .rw [if_neg e];exact ⟨h.lt h1 _,h.lt h1 _,λc=>by
    cases c with
    | true=>exact tT h1 h q k f _ _
    | false=>exact tT h1 h q k f _ _⟩
theorem MH(h1:1<=n){Q:Array Nat->Prop}(q:∀ p,Q p):∀ f p k,Rg n p->MG n (kas_bin f p k) Q
 | 0,p,k,h=>q p
 | f+1,p,k,h=>lN _ (tT h1 h (λl=>MH h1 q f _ _ ((bubble_perm _ _ _).trans h)) k _ _ _)
theorem VN(h1:1<=n){Q:Array Nat->Prop}(q:∀ p,Q p):MG n (kas_sort n) Q :=
 lN _ (OY h1 (λr hr=>by
  by_cases e:r.1<n
  .rw [if_pos e]; exact MH h1 q _ _ _ hr
  .rw [if_neg e]; exact q _) (Array.Perm.refl _))
end
section
variable{X:Cx}
noncomputable def lO(ts:List (List Int))(i:Nat):List Int:=(ts[i]?).getD []
theorem MI{prog:Program}{w:World}{A:Around}{κ:SortKind}{vs:List Value}{lt:Nat->Nat->Bool}{s:Shared}{n:Nat}(h:∀ i j (C:Bool->Shared->Prop),i<n->j<n->C (lt i j) s->kas_ask prog w A κ vs i j C s){α:Type}:∀ (t:KasT α) (Q:α->Shared->Prop),MG n t (λ_=>True)->Q (told lt t) s->t.kasWp (kas_ask prog w A κ vs) Q s
 | .ret a,Q,_,q=>q
 | .ask i j k,Q,sf,q=>h i j _ sf.1 sf.2.1 (MI h (k (lt i j)) Q (sf.2.2 _) q)
noncomputable def JJ(K:PySem.W.Frag):List V->Hp->VK->Prop:=λxs H Q=>∃ (a:Addr) (ps:List Addr) (ts:List (List Int)),xs=[.ref a]/\H a=some (.lst (ps.map V.ref))/\ps.length=ts.length/\2<=ts.length/\ts.length<64 /\
 (∀ (j:Nat) (p:Addr) (t:List Int),ps[j]? = some p->ts[j]? = some t->gR K H p (t.map V.int)/\t≠[]) /\
 ∀ ix:List Nat,ix.Perm (List.range ts.length)->(∀ i j:Nat,i<j->j<ts.length->iU (lO ts (ix.getD j 0)) (lO ts (ix.getD i 0))=false) -> ∀ q,H q=none->Q (.ref q) (upd H q (.lst (ix.map λi=>V.ref (ps.getD i 0))))
theorem BP:∀ {ps:List Addr} {us:List Value},Vals (ps.map V.ref) us->us=ps.map Value.ref
 | [],_,.nil=>rfl
 | p::ps,_,.cons r t=>by rw [BP t]; rw [show _=Value.ref p from r]; rfl
theorem dJ.live{P:Program}{w:World}{H:Hp}{h:Heap}{a:Addr}{o:HO}(x:L2.dJ P w H h a o):∃ u,h.get? a=some u:=by
 cases o with
 | lst xs=>obtain ⟨_,_,_,_,e⟩:=x; exact ⟨_,e⟩
 | tup xs=>obtain ⟨_,_,_,⟨_,e,_⟩,_⟩:=x; exact ⟨_,e⟩
 | dK kvs=>obtain ⟨_,_,_,_,o,_,_,e,_⟩:=x; exact ⟨_,e⟩
 | dT kvs=>obtain ⟨_,_,_,_,o,_,_,e,_⟩:=x; exact ⟨_,e⟩
 | dX ob kvs=>obtain ⟨_,_,e,_⟩:=x; exact ⟨_,e⟩
 | set S n=>obtain ⟨o,_,_,_,e,_⟩:=x; exact ⟨_,e⟩
 | ins C dx fs=>obtain ⟨_,_,_,e,_⟩:=x; exact ⟨_,e⟩
 | own y=>obtain ⟨_,e⟩:=x; exact ⟨_,e⟩
 | xd fs=>obtain ⟨_,⟨_,_,_,e,_⟩,_⟩:=x; exact ⟨_,e⟩
 | rng lo hi=>obtain ⟨_,_,_,e⟩:=x; exact ⟨_,e⟩
 | xX ob u=>obtain ⟨e,_⟩:=x; exact ⟨_,e⟩
 | NL q=>obtain ⟨_,e,_⟩:=x; exact ⟨_,e⟩
 | met f y=>exact ⟨_,(show h.get? a=some _ from x)⟩
 | ext φ=>obtain ⟨_,⟨_,e⟩,_⟩:=x; exact ⟨_,e⟩
theorem D3:fP X (.builtin "sorted") (JJ X.K):=by
 intro pins s σ H xs us Q I r h;obtain ⟨a,ps,ts,rfl,ha,hl,h2,h64,ht,q⟩:=h;obtain ⟨u,rfl,ru⟩:=vals1 r;cases ru;obtain ⟨its,rv,pl,hz⟩:=I.list (eO.of ha);have aKy:=BP rv;subst aKy;obtain ⟨m,hns,_⟩:=id I.loc;have hL:=I.lt;have hn:(ps.map Value.ref).length=ts.length:=by rw [length_map]; exact hl
 have tup:∀ (j:Nat),j<ts.length -> ∃ (p:Addr) (us:List Value),ps[j]? = some p/\IsTup s.heap p us.toArray/\IntsAre us (lO ts j)/\lO ts j≠[]/\(ps.map Value.ref).getD j Value.none=.ref p:=λj hj=>by
  obtain ⟨q1,q2⟩:=ht j ps[j] ts[j] (by simp [hl,hj]) (by simp [hj]);obtain ⟨us,ru,pt,_⟩:=I.tuple q1;refine ⟨ps[j],us,by simp [hl,hj],pt,?_,?_,by simp [hl,hj]⟩
  .unfold lO; rw [getElem?_eq_getElem hj]; exact intsAre_of ru
  .unfold lO; rw [getElem?_eq_getElem hj]; exact q2
 refine kat_sorted (h₀:=DI s.heap) (L:=X.env.locals) (m:=m) (news:=ledger s.heap X.env.locals s.heap.objs.size) (vs:=ps.map Value.ref) (aBl hns) (λp hp=>?_) pl.isList (by omega) (by omega) λD e1 h' F' N' hD=>?_
 .obtain ⟨x,o⟩:=p;obtain ⟨n1,_,e⟩:=mM.mp hp;exact ⟨e,n1,yB _ _⟩
 have keep':∀ b o,b≠X.env.locals->s.heap.get? b=some o->h'.get? b=some o:=λb o hb e =>
  (N' (b,o) (mem_cons_of_mem _ (mM.mpr ⟨hb,Nat.ne_of_lt (Heap.lt_size e),e⟩))).1
 have aCc:∀ {p:Addr} {us:Array Value},IsTup s.heap p us->p≠X.env.locals:=λ{p us} ⟨o,e,c,n,d⟩ z=>by subst z;obtain ⟨o2,es,ep,e2,d2,_⟩:=hns;rw [e] at e2;cases e2;rw [d] at d2;cases d2
 -- the kind: tuples that begin with ints
 have kt:∀ (ps':List Addr) (fs:List Value),ps'.length=fs.length->(∀ (j:Nat) (p:Addr) (f:Value),ps'[j]? = some p->fs[j]? = some f -> ∃ us:Array Value,IsTup h' p us/\us[0]? = some f)->KatTups h' (ps'.map Value.ref) fs:=by
  intro ps'
  induction ps' with
  | nil=>intro fs hf _; cases fs; exact trivial; simp at hf
  | cons p ps' ih =>
   intro fs hf h
   cases fs with
   | nil=>simp at hf
   | cons f fs =>
    obtain ⟨us,⟨o,e,c,n,d⟩,u0⟩:=h 0 p f rfl rfl;exact KatTups.cons e c d u0 (ih fs (by simpa using hf) λj p' f' h1 h2=>h (j+1) p' f' (by simpa using h1) (by simpa using h2))
 have heads:∃ fs:List Value,fs.length=ps.length/\(∀ v∈fs,∃ i t,v=Value.int i t) /\ ∀ (j:Nat) (p:Addr) (f:Value),ps[j]? = some p->fs[j]? = some f -> ∃ us:Array Value,IsTup h' p us/\us[0]? = some f:=by
  have:∀ k,k<=ps.length -> ∃ fs:List Value,fs.length=k/\(∀ v∈fs,∃ i t,v=Value.int i t) /\ ∀ (j:Nat) (p:Addr) (f:Value),ps[j]? = some p->fs[j]? = some f -> ∃ us:Array Value,IsTup h' p us/\us[0]? = some f:=by
   intro k
   induction k with
   | zero=>intro _; exact ⟨[],rfl,λv hv=>(nomatch hv),λj p f _ e=>by simp at e⟩
   | succ k ih =>
    intro hk;obtain ⟨fs,f1,f2,f3⟩:=ih (by omega);obtain ⟨p,us,hp,pt,hi,ne,_⟩:=tup k (by omega);obtain ⟨i,t,us',rfl⟩:∃ i t us',us=Value.int i t::us':=by
     generalize lO ts k=w at hi ne
     cases hi with
     | nil=>exact absurd rfl ne
     | cons n t r=>exact ⟨n,t,_,rfl⟩
    refine ⟨fs++[Value.int i t],by simp [f1],λv hv=>?_,λj p' f' h1 h2=>?_⟩
    .rcases List.mem_append.mp hv with h | h
     .exact f2 v h
     .exact ⟨i,t,List.mem_singleton.mp h⟩
    .by_cases hj:j<k
     .rw [getElem?_append_left (by omega)] at h2; exact f3 j p' f' h1 h2
     .have:j=k:=by have:=(List.getElem?_eq_some_iff.mp h2).1;simp [f1] at this;omega
      subst this;rw [getElem?_append_right (by omega),f1,Nat.sub_self] at h2;rw [hp] at h1;cases h1;have h2:Value.int i t=f':=by simpa using h2
      subst h2;obtain ⟨o,e,c⟩:=id pt;exact ⟨_,⟨o,keep' p o (aCc pt) e,c⟩,by simp⟩
  exact this ps.length (Nat.le_refl _)
 obtain ⟨fs,f1,f2,f3⟩:=heads;refine kat_kind (T:=.type "int") (kt ps fs f1.symm f3) (by omega) (λv hv=>?_) (by decide) ?_
 .obtain ⟨i,t,rfl⟩:=f2 v hv;exact Looks.of_pure rfl
 have O:vG λi j=>iU (lO ts i) (lO ts j):=⟨λx y a=>HF _ _ a,λx y z a b=>HG _ _ _ a b⟩;rw [hn];refine MI (n:=ts.length) (lt:=λi j=>iU (lO ts i) (lO ts j)) (λi j C hi hj hC=>?_) _ _ (VN (by omega) λ_=>trivial) ?_
 .obtain ⟨p,us,hp,pt,hi',_,ep⟩:=tup i hi;obtain ⟨p2,us2,hp2,pt2,hi2,_,ep2⟩:=tup j hj;unfold kas_ask;rw [ep,ep2,show (Value.type "int" != Value.type "tuple")=true from by decide];obtain ⟨o,e,c,n,d⟩:=id pt;obtain ⟨o2,e2,c2,n2,d2⟩:=id pt2;exact kat_lt (s:={ s with heap:=h' }) (keep' p o (aCc pt) e) d (keep' p2 o2 (aCc pt2) e2) d2 (aCb us us2 _ _ 0 _ rfl hi' hi2 hC)
 obtain ⟨sp,su⟩:=ZQ O (n:=ts.length) (by omega);generalize told (λi j=>iU (lO ts i) (lO ts j)) (kas_sort ts.length)=pp at sp su;refine KasFin.intro F' N' (UpdF.head λp hp z=>Nat.lt_irrefl _ (z▸hD p hp)) λh'' c F'' N''=>?_;have nD:D≠X.env.locals:=(N' _ (mem_cons_self ..)).2.1;have dead:s.heap.get? D=none:=by
  cases e:s.heap.get? D with
  | none=>rfl
  | some o=>exact absurd (hD (D,o) (mM.mpr ⟨nD,Nat.ne_of_lt (Heap.lt_size e),e⟩)) (Nat.lt_irrefl _)
 have MJ:∀ b o,b≠X.env.locals->s.heap.get? b=some o->h''.get? b=some o:=λb o hb e =>
  (N'' (b,o) (mem_cons_of_mem _ (mM.mpr ⟨hb,Nat.ne_of_lt (Heap.lt_size e),e⟩))).1
 have hDo:=(N'' (D,_) (mem_cons_self ..)).1;have hfr:H D=none:=by
  cases e:H D with
  | none=>rfl
  | some u =>
   obtain ⟨o,eo⟩:=dJ.live (I.hok D u e);rw [dead] at eo;cases eo
 have neD:∀ {b:Addr} {o:Obj},s.heap.get? b=some o->b≠D:=λ{b o} e z=>by rw [z,dead] at e; cases e
 have neH:∀ {b:Addr} {u:HO},H b=some u->b≠D:=λ{b u} e z=>by rw [z,hfr] at e; cases e
 have hlp:pp.toList.Perm (List.range ts.length):=by simpa using sp.toList
 refine ⟨.ref D,upd H D (.lst (pp.toList.map λi=>V.ref (ps.getD i 0))),?_,rfl,q pp.toList hlp (λi j hij hj=>?_) D hfr⟩
 .show L2.Inv X pins σ _ { s with heap:=h'' };refine I.step (s:=s) (h':=h'') (g':=s.gens) (t':=s.toks) (d':=s.drawn) (ch:=[]) (λb hb=>nomatch hb) (λb o hb _ _ e _=>MJ b o hb e) (λb o hb _ _ e _=>⟨o.slots,MJ b o hb e⟩) (λb o _ e n=>by rw [bA (neD e)]; exact n) (λb o _ e=>?_)
   (λb xs e=>by rw [bA (neH e)]; exact e) (λb o u e=>by rw [bA (neH e)]; exact e) (λb ps e=>by rw [bA (neH e),e]) (λm2 hm2=>?_) ?_ I.bare
  .by_cases hb:b=X.env.locals
   .subst hb;obtain ⟨o2,_,_,e2,_⟩:=F''.ns;exact ⟨o2,e2⟩
   .exact ⟨o,MJ b o hb e⟩
  .have:m2=m:=by
    obtain ⟨oa,ea,pa,h1,h2,_,h3⟩:=hm2;obtain ⟨ob,eb,pb,k1,k2,_,k3⟩:=hns;rw [h1] at k1;cases k1;rw [h2] at k2;cases k2
    funext x
    rw [<- h3,<- k3]
   subst this;exact F''.ns
  .intro b u e;by_cases hb:b=D
   .subst hb;rw [aV] at e;cases e;refine ⟨?_,pp.toList.map λi=>Value.ref (ps.getD i 0),c,?_,hDo.trans ?_⟩
    .rw [length_map,hlp.length_eq,length_range,sizeLine_eq]; omega
    .have:∀ l:List Nat,Vals (l.map λi=>V.ref (ps.getD i 0)) (l.map λi=>Value.ref (ps.getD i 0)):=λl=>by
      induction l with
      | nil=>exact .nil
      | cons a l ih=>exact .cons rfl ih
     exact this _
    .have:(pp.toList.map λi=>(ps.map Value.ref).getD i Value.none)=pp.toList.map λi=>Value.ref (ps.getD i 0):=map_congr_left λi hi=>by
      have:i<ts.length:=by simpa using hlp.mem_iff.mp hi
      simp [hl,this]
     rw [this]
   .rw [bA hb] at e;refine (I.hok b u e).stay (λc v hc ev=>MJ c v (λz=>?_) ev) (λc ec=>by rw [bA (neH ec)]; exact ec) (λc ys ec=>by rw [bA (neH ec)]; exact ec) λc o u ec=>by rw [bA (neH ec)]; exact ec
    subst z;rcases hc with hc | hc
    .rw [<- hc,I.free] at e; cases e
    .rw [I.free] at hc; cases hc
 .have:=su i j hij hj;rw [i5,i5] at this;simpa using this
theorem VO{prog:Program}{w:World}{A:Around}{E:Value->Shared->Prop}{s:Shared}{a:Addr}{v:Value}{n:Nat}{P:PySem.Fin->Shared->Prop}(ho:s.heap.get? a=some (seqObj "list" #[v] n))
  (h:P (.done (.ret .none)) { s with heap:=sortedHeap s.heap a [v] #[v] }):wpAny (model prog w) A (Builtin.«list.sort» ⟨[.ref a],[]⟩) P E s:=by
 rw [list_sort_plain];have hlt:=Heap.lt_size ho;refine wpAny_bind (listItems_at ho rfl (wpAny_bind (listUpdate_at ho rfl ?_)));have ho1:=get?_update_seq ho (λ_=>(#[]:Array Value));refine wpAny_bind (seqEpoch_at ho1 rfl (wpAny_bind (wpAny_newTuple (wpAny_bind (wpAny_newList (wpAny_holding ?_))))));have ho2:(((s.heap.update a (Obj.mapSeq λ_=>(#[]:Array Value))).push (seqObj "tuple" #[v] 0)).push (seqObj "list" #[] 0)).get? a=_:=Heap.get?_push_of_some _ (Heap.get?_push_of_some _ ho1);show wpAny (model prog w) A _ P E { s with heap:=((s.heap.update a (Obj.mapSeq λ_=>(#[]:Array Value))).push (seqObj "tuple" #[v] 0)).push (seqObj "list" #[] 0) };dsimp only;rw [if_pos (show (#[v]:Array Value).size<2 from Nat.lt_succ_self 1),if_pos (show (#[v]:Array Value).size<2 from Nat.lt_succ_self 1)];refine wpAny_bind (wpAny_pure ?_);rw [StateT.run_pure];refine wpAny_bind (wpAny_pure (wpAny_bind (seqEpoch_at ho2 rfl (wpAny_bind (listUpdate_at ho2 rfl ?_ (hsz2:=?_))))))
 .simp only [bne_self_eq_false,Bool.false_eq_true,if_false];have e:(arrOf (SortSt.mk' general' ((#[v]:Array Value).zip #[v]) #[] 7 none)).map (·.2)=#[v]:=by show ((#[v]:Array Value).zip #[v]).map (·.2)=#[v];simp
  rw [e];exact wpAny_pure h
 .show (((#[v]:Array Value).zip #[v]).map (·.2)).size<=sizeLine+1;simp
noncomputable def JK:List V->Hp->VK->Prop:=λxs H Q=>∃ (a:Addr) (x:V),xs=[.ref a]/\H a=some (.lst [x]) /\ ∀ q,H q=none->Q (.ref q) (upd H q (.lst [x]))
theorem D4:fP X (.builtin "sorted") JK:=by
 intro pins s σ H xs us Q I r h;obtain ⟨a,x,rfl,ha,q⟩:=h;obtain ⟨u,rfl,ru⟩:=vals1 r;cases ru;obtain ⟨its,rv,pl,hz⟩:=I.list (eO.of ha);obtain ⟨v,rfl,rx⟩:=vals1 rv;refine Calls.call_function_entry kind_sorted plain_sorted entry_sorted (args_sorted1 (.ref a)) (show wpAny _ _ (Builtin.«sorted» _) _ _ _ from ?_);unfold Builtin.«sorted»;refine wpAny_bind (m:=checkCount "sorted" 1 1 _) (wpAny_pure (wpAny_bind (collect_list pl.isList (wpAny_bind (wpAny_newList ?_)))));have hsz:((s.heap.push (seqObj "list" #[] 0)).update s.heap.objs.size (Obj.mapSeq (· ++ [v].toArray))).objs.size=s.heap.objs.size+1:=by rw [Heap.size_update,size_push']
 have hoL:(((s.heap.push (seqObj "list" #[] 0)).update s.heap.objs.size (Obj.mapSeq (· ++ [v].toArray))).push (seqObj "list" [v].toArray 0)).get? (s.heap.objs.size+1)=some (seqObj "list" #[v] 0):=by rw [<- hsz];exact Heap.get?_push_size _ rfl
 show wpAny _ _ _ _ _ { s with heap:=((s.heap.push (seqObj "list" #[] 0)).update s.heap.objs.size (Obj.mapSeq (· ++ [v].toArray))).push (seqObj "list" [v].toArray 0) };rw [hsz];refine wpAny_bind (wpAny_holding (wpAny_call_entry slot_list_sort ⟨_,hoL,rfl⟩ entry_list_sort (VO hoL ⟨_,rfl,?_⟩) (args_list_sort _)));refine wpAny_pure ⟨.ref (s.heap.objs.size+1),rfl,?_⟩;obtain ⟨e1,hat⟩:=sortedAll_at s.heap [v] #[v];have I1:L2.Inv X pins σ (upd H (s.heap.objs.size+1) (.lst [x])) { s with heap:=sortedAll s.heap [v] #[v] } :=
  I.laid (t':=s.toks) (λb o e=>sortedAll_old e) (Nat.le_succ _) ⟨by rw [sizeLine_eq]; simp,[v],e1,.cons rx .nil,by simpa [seqObj] using hat⟩
 exact ⟨.ref _,_,I1,rfl,q _ (I.hok.fresh (Nat.le_succ _))⟩
end
end L4
end
section
namespace L4
open PySem PySem.Spec PyProof.Rows L2 L3
section
variable{X:Cx}
theorem D5:fP X (.builtin "sorted") (λxs H Q=>LZ xs H Q\/JK xs H Q\/JJ X.K xs H Q):=by
 intro pins s σ H xs us Q I r h;rcases h with h | h | h
 .exact sC pins s σ H xs us Q I r h
 .exact D4 pins s σ H xs us Q I r h
 .exact D3 pins s σ H xs us Q I r h
noncomputable def VP:F1
 | [.lst ds],Q=>∃ ts,p6 ds=some ts/\ts.length<64/\(∀ t∈ts,t≠[])/\Q (.lst ((uG ts).map rA))
 | _,_=>False
theorem VQ{d:D}{t:List Int}(h:aAA d=some t):d=rA t:=by
 cases d<;>first | cases h; done | skip
 rename_i ds;unfold rA;rw [<- ints_of h]
theorem BQ:∀ {ds:List D} {ts:List (List Int)},p6 ds=some ts->ds=ts.map rA
 | [],ts,h=>by cases h; rfl
 | d::ds,ts,h=>by unfold p6 at h;obtain ⟨t,e1,h⟩:=bnd h;obtain ⟨us,e2,rfl⟩:=uR h;rw [map_cons,VQ e1,BQ e2]
theorem aCd{K:PySem.W.Frag}{S:Addr->Prop}{H:Hp}{t:List Int}{v:V}(h:Dn K S H (rA t) v):∃ p,v=.ref p/\H p=some (.tup (t.map V.int)):=by unfold rA at h;simp only [Dn] at h;obtain ⟨a,xs,rfl,hl,da⟩:=h;rw [aP.ints.mp da] at hl;exact ⟨a,rfl,hl⟩
theorem GO{K:PySem.W.Frag}{S:Addr->Prop}{H:Hp}:∀ {ts:List (List Int)} {ys:List V},aP K S H (ts.map rA) ys -> ∃ ps:List Addr,ys=ps.map V.ref/\ps.length=ts.length /\ ∀ (j:Nat) (p:Addr) (t:List Int),ps[j]? = some p->ts[j]? = some t->H p=some (.tup (t.map V.int))
 | [],ys,h=>by simp only [map_nil,aP] at h;exact ⟨[],h,rfl,λj p t e=>by simp at e⟩
 | t::ts,ys,h=>by
  obtain ⟨v,r,rfl,h1,h2⟩:=aP.bV h;obtain ⟨p,rfl,hp⟩:=aCd h1;obtain ⟨ps,rfl,hl,hh⟩:=GO h2;refine ⟨p::ps,rfl,by simp [hl],λj q u e1 e2=>?_⟩
  cases j with
  | zero=>cases e1; cases e2; exact hp
  | succ j=>exact hh j q u (by simpa using e1) (by simpa using e2)
theorem VR(ts:List (List Int)):(List.range ts.length).map (lO ts)=ts:=by
 refine ext_getElem? λi=>?_;rw [getElem?_map];by_cases h:i<ts.length
 .rw [getElem?_range h]; simp [lO,h]
 .rw [getElem?_eq_none (by simpa using h),getElem?_eq_none (by simpa using h)]; rfl
theorem VS{K:PySem.W.Frag}:C3F K (λxs H Q=>LZ xs H Q\/JK xs H Q\/JJ K xs H Q) VP:=by
 intro S H xs ds Q3 Q fc hd hf k
 match ds,hf with
 | [.lst es],hf =>
  obtain ⟨v,r,rfl,h1,h2⟩:=hd.bV;simp only [aP] at h2;subst h2;simp only [Dn] at h1;obtain ⟨a,ys,rfl,ha,sa,da⟩:=h1;obtain ⟨ts,e,h64,hne,q⟩:=hf;rw [BQ e] at da;obtain ⟨ps,rfl,hl,hh⟩:=GO da;have one:∀ (p:Addr) (t:List Int) (H':Hp) (S':Addr->Prop),Same H H'->H p=some (.tup (t.map V.int))->Dn K S' H' (rA t) (.ref p):=λp t H' S' sm hp=>by unfold rA;simp only [Dn];exact ⟨p,_,rfl,sm _ _ hp,aP.ints.mpr rfl⟩
  match ts,hl,hh,h64,hne,q with
  | [],hl,hh,h64,hne,q =>
   have:ps=[]:=List.length_eq_zero_iff.mp hl;subst this;refine .inl ⟨a,[],rfl,ha,by decide,λns' hp _ p hf=>?_⟩;have:ns' = []:=List.perm_nil.mp hp;subst this;exact k p [] _ [] hf aV (aR hf) (by simp only [aP]) q
  | [t],hl,hh,h64,hne,q =>
   obtain ⟨p,rfl⟩:∃ p,ps=[p]:=by
    match ps,hl with
    | [p],_=>exact ⟨p,rfl⟩
   exact .inr (.inl ⟨a,.ref p,rfl,ha,λl hf=>k l [.ref p] _ [rA t] hf aV (aR hf) (aP.one (one p t _ _ (aR hf) (hh 0 p t rfl rfl))) q⟩)
  | t1::t2::ts,hl,hh,h64,hne,q =>
   generalize hT:t1::t2::ts=T at *;refine .inr (.inr ⟨a,ps,T,rfl,ha,hl,by rw [<- hT]; simp,h64,λj p t e1 e2=>⟨gR.of (hh j p t e1 e2),hne t (mem_of_getElem? e2)⟩,λix hp hu l hf=>?_⟩);have hlen:ix.length=T.length:=by rw [hp.length_eq,length_range]
   have es:uG T=ix.map (lO T):=by
    refine KH ((lZ T).trans ?_) (EJ T) ?_
    .have:=(hp.map (lO T)).symm;rw [VR] at this;exact this
    .rw [UpT,pairwise_map,List.pairwise_iff_getElem];intro i j hi hj hij;have:=hu i j hij (by omega);simpa [hi,hj] using this
   have dn:∀ (H':Hp),Same H H' -> ∀ jx:List Nat,(∀ i∈jx,i<T.length)->aP K (λx=>S x/\x≠l) H' (jx.map λi=>rA (lO T i)) (jx.map λi=>V.ref (ps.getD i 0)):=by
    intro H' sm jx
    induction jx with
    | nil=>intro _; exact aP.nil
    | cons i jx ih =>
     intro hh2;have hi:=hh2 i mem_cons_self;refine aP.cons (one _ _ _ _ sm ?_) (ih λx hx=>hh2 x (mem_cons_of_mem _ hx));exact hh i _ _ (by simp [hl,hi]) (by simp [lO,hi])
   refine k l _ _ (ix.map λi=>rA (lO T i)) hf aV (aR hf) (dn _ (aR hf) ix λi hi=>by simpa using hp.mem_iff.mp hi) ?_;rw [es,map_map] at q;exact q
theorem GP:oB VP kP:=λds d Q e q=>by
 unfold kP at e;split at e
 .rename_i a;obtain ⟨ts,e1,e⟩:=bnd e;by_cases h:ts.length<64/\ts.all (λt=>!t.isEmpty)=true
  .rw [if_pos h] at e;cases e;refine ⟨ts,e1,h.1,λt ht z=>?_,q⟩;have:=List.all_eq_true.mp h.2 t ht;rw [z] at this;cases this
  .rw [if_neg h] at e; cases e
 .cases e
theorem VT{p pos:Pos}{e:Expr}{t:AF}(hm:X.mg "sorted" = none)(ha:BH X [e] t)(hg:Gl X "sorted" := by rfl)(he:starEach [e] X.env=(false,eval e X.env)::starEach [] X.env:=by rfl):kK X (.Call (.Name "sorted" p) [e] [] pos) (cN kP t):=cF (LV D5 VS PyProof.Rows.boot_sorted hg hm ha (by decide) (by decide) he (by rfl)) (DT GP)
end
end L4
end
section
namespace L4
open PySem PySem.Spec PyProof.Rows L2 L3 PySem.SeqAt
section
variable{X:Cx}{pins:List (Addr×Obj)}{σ:L2.St}{H:Hp}{s:Shared}{S:Addr->Prop}
open Classical in
end
end L4
end
section
namespace L4
open PySem PySem.Spec PyProof.Rows L2 L3
section
variable{X:Cx}
theorem aFW(i:Nat){st:Stmt}{f:SF}(h:vW X st f):vW X st (aAg i f) :=
 lI h λB σ H aFX=>by obtain ⟨H₀,S,w,ρ,G,E,hl,st,ht,ok⟩:=aFX; exact ⟨H₀,S,w,freeze ρ i,G,E,hl,st.frozen,ht,ok⟩
end
end L4
end
section
namespace L5
open PySem PySem.Spec PyProof.Rows L2 L3 L4
section
variable{X:Cx}{pins:List (Addr×Obj)}{σ:L2.St}{H:Hp}{s:Shared}{h':Heap}{e:Addr}{cls a0:Value}{P:List Addr}
end
section
variable{P:Program}{w:World}{K:PySem.W.Frag}{mg:Str->Option Value}{base:Heap}{N:List Str}{qual:Str}{scope:Scope}{f:Addr}{cd:Value}{A:Around}{outer:List Env}{s0:Shared}{H0:Hp}{E:XK}
end
section
variable{X:Cx}{k:Nat}{f:Addr}{fd:FuncData}{ps:List Str}{R:gD}{x:Str}{p pos:Pos}{e:Expr}{es:List Expr}{t:AF}
end
section
variable{X:Cx}
end
end L5
end
section
namespace L5
open PySem PySem.Spec PyProof.Rows L2 L3 L4 PySem.W Builtin.ObjectAttr Builtin.Getset_descriptor
structure aQc (K:PySem.W.Frag) (C:Addr):Prop where
 hc:isClsIn K C=true
 hm:mroIn K C (.type "object")=some true
 hs:subIn K (.ref C) (.type "BaseException")=some true
 hga:findIn K (.ref C) "__getattribute__" = some (some (.builtin "BaseException.__getattribute__"))
 hgg:findIn K (.ref C) "__getattr__" = some none
 ha:findIn K (.ref C) "__class__" = some (some (.builtin "object.__class__"))
 hn:specialIn K (.builtin "object.__class__") "__get__" = some (some (.builtin "getset_descriptor.__get__"))
 ht:takesIn K (.builtin "object.__class__")=some true
section
variable{prog:Program}{w:World}{A:Around}{E:Value->Shared->Prop}{s:Shared}{K:PySem.W.Frag}{a C:Addr}
end
end L5
end
section
namespace L5
open PySem PySem.Spec PyProof.Rows L2 L3 L4
section
variable{X:Cx}
end
section
variable{X:Cx}{pins:List (Addr×Obj)}{σ:L2.St}{H:Hp}{s:Shared}
end
section
variable{X:Cx}
end
section
variable{X:Cx}
theorem OZ(hc:X.calm=true):fP X (.builtin "min") (λxs H Q=>∃ a b,xs=[.int a,.int b]/\Q (.int (if b<a then b else a)) H):=by
 intro pins s σ H xs us Q I r h;obtain ⟨a,b,rfl,q⟩:=h;obtain ⟨u1,u2,rfl,⟨t1,rfl⟩,⟨t2,rfl⟩⟩:=vals2 r;refine min_two_ints (I.ok.hd hc) λh' tk hk=>⟨_,H,I.kept hk,?_,q⟩;by_cases z:b<a
 .rw [if_pos z,if_pos z]; exact ⟨_,rfl⟩
 .rw [if_neg z,if_neg z]; exact ⟨_,rfl⟩
theorem O0(hc:X.calm=true):fP X (.builtin "max") (λxs H Q=>∃ a b,xs=[.int a,.int b]/\Q (.int (if b>a then b else a)) H):=by
 intro pins s σ H xs us Q I r h;obtain ⟨a,b,rfl,q⟩:=h;obtain ⟨u1,u2,rfl,⟨t1,rfl⟩,⟨t2,rfl⟩⟩:=vals2 r;refine max_two_ints (I.ok.hd hc) λh' tk hk=>⟨_,H,I.kept hk,?_,q⟩;by_cases z:b>a
 .rw [if_pos z,if_pos z]; exact ⟨_,rfl⟩
 .rw [if_neg z,if_neg z]; exact ⟨_,rfl⟩
def VU(g:Int->Int->Int):F1
 | [.int a,.int b],Q=>Q (.int (g a b))
 | _,_=>False
theorem MK{K:PySem.W.Frag}{g:Int->Int->Int}:C3 K (λxs H Q=>∃ a b,xs=[.int a,.int b]/\Q (.int (g a b)) H) (VU g):=by
 intro S H xs ds Q3 Q fc hd hf k
 match ds,hf with
 | [.int a,.int b],hf =>
  obtain ⟨v,r,rfl,h1,h2⟩:=hd.bV;obtain ⟨v2,r2,rfl,h3,h4⟩:=h2.bV;simp only [aP] at h4;subst h4;simp only [Dn] at h1 h3;subst h1 h3;exact ⟨a,b,rfl,k _ H _ (Same.refl H) (by simp only [Dn]) hf⟩
theorem JL:oB (VU λa b=>if b<a then b else a) J9:=λds d Q e q=>by
 unfold J9 at e;split at e
 .cases e; exact q
 .cases e
theorem JM:oB (VU λa b=>if b>a then b else a) wN:=λds d Q e q=>by
 unfold wN at e;split at e
 .cases e; exact q
 .cases e
theorem aFY{p pos:Pos}{a b:Expr}{t:AF}(hc:X.calm=true)(hm:X.mg "min" = none)(ha:BH X [a,b] t)(hg:Gl X "min" := by rfl)(he:starEach [a,b] X.env=(false,eval a X.env)::starEach [b] X.env:=by rfl)(hpl:(backTo pos (starEach [b] X.env)).any (·.1)=false:=by rfl):dA X (.Call (.Name "min" p) [a,b] [] pos) (cN J9 t) :=
 cE (tQ (OZ hc) MK PyProof.Rows.boot_min hg hm ha (by decide) (by decide) he hpl) (DT JL)
theorem aFZ{p pos:Pos}{a b:Expr}{t:AF}(hc:X.calm=true)(hm:X.mg "max" = none)(ha:BH X [a,b] t)(hg:Gl X "max" := by rfl)(he:starEach [a,b] X.env=(false,eval a X.env)::starEach [b] X.env:=by rfl)(hpl:(backTo pos (starEach [b] X.env)).any (·.1)=false:=by rfl):dA X (.Call (.Name "max" p) [a,b] [] pos) (cN wN t) :=
 cE (tQ (O0 hc) MK PyProof.Rows.boot_max hg hm ha (by decide) (by decide) he hpl) (DT JM)
end
end L5
end
section
namespace L5
open PySem PySem.Spec PyProof.Rows L2 L3 L4 PySem.W
variable{K:PySem.W.Frag}{C D:Addr}
structure VV (K:PySem.W.Frag) (C D:Addr):Prop where
 ne:(Value.ref C == Value.ref D)=false
 c:isClsIn K D=true
 t:typeIn K (.ref D)=some (.type "type")
 s:subIn K (.ref C) (.ref D)=some false
theorem O1{t:Value}{b:Bool}(c:isClsIn K D=true)(ht:typeIn K (.ref D)=some (.type "type"))(s:subIn K t (.ref D)=some b):kitCls K t (.ref D)=some b:=by have c:(clsIn K D).isSome=true:=c;unfold kitCls;dsimp only;rw [c,ht,if_pos (by decide)];exact s
theorem VV.one(n:VV K C D):kitOne K (.ref C) (.ref D)=some false:=by unfold kitOne;rw [n.ne,if_neg Bool.false_ne_true];exact O1 n.c n.t n.s
end L5
end
section
namespace L5
open PySem PySem.Spec PyProof.Rows L2 L3 L4
section
variable{X:Cx}
end
end L5
end
section
namespace L5
open PySem PySem.Spec PyProof.Rows L2 L3 L4 Att
section
variable{X:Cx}{pins:List (Addr×Obj)}{σ:L2.St}{H:Hp}{s:Shared}
end
end L5
end
section
namespace L5
open PySem PySem.Spec PyProof.Rows L2 L3 L4
section
variable{X:Cx}
def aF0:F2
 | .lst a,.int n,Q=>a.length*n.toNat<=sizeLine /\ -(2 ^ 63)<=n/\n<2 ^ 63/\Q (.lst (List.replicate n.toNat a).flatten)
 | _,_,_=>False
theorem ML{K:PySem.W.Frag}{S:Addr->Prop}{H:Hp}{ds:List D}{xs:List V}(h:aP K S H ds xs):∀ n:Nat,aP K S H (List.replicate n ds).flatten (List.replicate n xs).flatten
 | 0=>aP.nil
 | n+1=>by rw [replicate_succ,replicate_succ,flatten_cons,flatten_cons];exact h.append (ML h n)
theorem rep3{a b:Expr}{pos:Pos}{ta tb:WE}(ha:dF X a ta)(hb:dF X b tb):IT X (.BinOp a .Mult b pos) (hJ aF0 ta tb):=imp (S6 aBk ha hb) λσ H Q h=>by
 obtain ⟨S,ρ,Q3,fc,sl,ht,k⟩:=h;refine ⟨S,ρ,_,fc,sl,ht,λv H1 d s1 d1 q1=>?_⟩;refine ⟨S,ρ,_,cH fc s1,Sl.fits (.same s1) sl,q1,λu H2 d2 s2 d2' q2=>?_⟩;cases d<;>cases d2<;>try exact q2.elim
 rename_i ds n;simp only [Dn] at d1 d2';obtain ⟨a,xs,rfl,ha,sa,da⟩:=d1;subst d2';have da':=aP.fits (.same s2) _ _ da;obtain ⟨z1,z2,z3,q3⟩:=q2;refine ⟨a,n,xs,rfl,rfl,s2 _ _ ha,z2,z3,by rw [<- da.len]; exact z1,λp hp=>k p _ _ _ ((s1.trans s2).free hp) aV ((s1.trans s2).trans (aR hp)) ?_ q3⟩;exact aP.fits ((Fits.fresh hp).trans (.same (aR hp))) _ _ (ML da' _)
theorem O2:Tells aF0 repLM:=λx y d Q e q=>by
 cases x<;>first | (cases e; done) | skip
 cases y<;>first | (cases e; done) | skip
 rename_i a n;have e:(if a.length*n.toNat<=pE/\n.natAbs<9223372036854775808 then some (D.lst (List.replicate n.toNat a).flatten) else none)=some d:=e;by_cases h:a.length*n.toNat<=pE/\n.natAbs<9223372036854775808
 .rw [if_pos h] at e;cases e;exact ⟨by rw [sizeLine_eq]; exact h.1,by have:=h.2; omega,by have:=h.2; omega,q⟩
 .rw [if_neg h] at e; cases e
theorem VW{a b:Expr}{fa fb:EF}{pos:Pos}(ha:dA X a fa)(hb:dA X b fb):kK X (.BinOp a .Mult b pos) (aE repLM fa fb):=cF (rep3 ha hb) (kL O2)
def MM:V->List V->Hp->VK->Prop:=λx vs H Q=>∃ l xs k y,x=.ref l/\vs=[.int k,y]/\H l=some (.lst xs)/\0<=k/\k<=(xs.length:Int)/\xs.length<sizeLine/\Q .non (upd H l (.lst (xs.take k.toNat++y::xs.drop k.toNat)))
theorem O4:MtR X "list.insert" MM:=by
 intro pins s σ H x vs v us Q I rx rv h;obtain ⟨l,xs,k,y,rfl,rfl,hH,k0,k1,hz,q⟩:=h;cases rx;obtain ⟨u,u2,rfl,ru,ru2⟩:=vals2 rv;obtain ⟨t,rfl⟩:=ru;obtain ⟨z,its,n,r,hl,e⟩:=I.FJ hH;have sz:sizeLine<2 ^ 62:=by decide
 refine call_meets PySem.F.slot_list_insert ⟨_,e,rfl⟩ PySem.F.entry_list_insert (PySem.F.args_list_insert_3 _ _ _) (PySem.AutoListH.list_insert_list_int_val_1 l its.toArray n k t u2 (by rw [fitsIndex_both (by omega) (by omega)]; decide) (by rw [size_toArray]; omega)) ⟨e,?_⟩;refine ⟨.non,_,I.YU (its':=its.take k.toNat++u2::its.drop k.toNat) hH e ?_ ((r.take k.toNat).append (.cons ru2 (r.drop k.toNat))) ?_,rfl,q⟩
 .show (let kk:=if k<0 then (k+((its.toArray.size:Nat):Int)).toNat else min k.toNat its.toArray.size; (its.toArray.extract 0 kk).push u2++its.toArray.extract kk)=_;rw [if_neg (by omega),show min k.toNat its.toArray.size=k.toNat by rw [size_toArray]; omega];simp;exact take_of_length_le (by rw [length_drop]; exact Nat.le_refl _)
 .rw [List.length_append,length_cons,length_take,length_drop];omega
theorem VX{K:PySem.W.Frag}{n i:Nat}{fa fb:EF}{σ:L2.St}{H:Hp}{Q:VK}(h:LW K n (wX (Q0 i fa fb)) σ H Q):tBM K "list" MM (SR i) (LK (lift K (wE fa)) (LK (lift K (wE fb)) aB7)) σ H Q:=by
 obtain ⟨H₀,S,w,ρ,G,Q3,hl,st,⟨p,e,q⟩,k⟩:=h;obtain ⟨ds,e0,e⟩:=bnd e;obtain ⟨kd,ek,e⟩:=bnd e;obtain ⟨kk,ekk,e⟩:=bnd e;obtain ⟨d,ed,e⟩:=bnd e;by_cases hc:d.AB=true/\0<=kk/\kk<=(ds.length:Int)/\ds.length<pE
 .rw [if_pos hc] at e;cases e;obtain ⟨hi,k0,k1,hz⟩:=hc;have o:=DX e0;obtain ⟨a,b,xs,hp,dn⟩:=st.own i _ o;cases kd<;>first | (cases ekk; done) | skip
  cases ekk;refine ⟨_,a,.inl ⟨rfl,xs,eO.of hp⟩,S,bU ρ,λd=>d=.int kk,st.QQ,st.all,⟨_,ek,rfl⟩,λv1 H1 d1 s1 d1' q1=>?_⟩;subst q1;simp only [Dn] at d1';subst d1';have st1:=st.same s1;refine ⟨S,bU ρ,λd'=>d' = d,st1.QQ,st1.all,⟨_,ed,rfl⟩,λv2 H2 d2 s2 d2' q2=>?_⟩;subst q2;have st2:=st1.same s2;obtain ⟨a',b',xs',hp',dn'⟩:=st2.own i _ o;have dl:=dn'.len;have nS:¬ SO S w ρ (w i):=λ⟨_,z⟩=>z i _ o rfl;have F:Fits K (SO S w ρ) (SO S w ρ) H2 (upd H2 (w i) (.lst (xs'.take kk.toNat++v2::xs'.drop kk.toNat))):=.upd (.inl ⟨_,hp'⟩) nS;refine ⟨w i,xs',kk,v2,rfl,rfl,hp',k0,by rw [<- dl]; exact k1,by rw [<- dl,sizeLine_eq]; exact hz,?_⟩;exact k w .non _ _ .non (st2.write (d':=.lst (ds.take kk.toNat++d2::ds.drop kk.toNat)) o ⟨_,aV,aP.fits F _ _ (aP.insert kk.toNat (Dn.AB hi d2') dn')⟩) (by simp only [Dn]) q
 .rw [if_neg hc] at e; cases e
theorem aKz{i:Nat}{x:Str}{ea eb:Expr}{p apos cpos:Pos}{fa fb:EF}(ha:dA X ea fa)(hb:dA X eb fb)
  (hN:X.N[i]? = some x:=by rfl) (hv:AZ X.env.scope x:=by first | exact Or.inl rfl | exact Or.inr (Or.inl rfl) | exact Or.inr (Or.inr rfl)) (hd:(x == ("__debug__" : Str))=false:=by decide) (hcd:(x == ("__classdict__" : Str))=false:=by decide)
  (hbase:attributeBase (.Name x p) "insert" X.env (eval (.Name x p) X.env)=eval (.Name x p) X.env:=by rfl)
  (hfew:((backTo cpos (starEach [ea,eb] X.env)).all (λx=>!x.1)&&(backToKw cpos (keywordEach [] X.env)).all (λx=>x.1.isSome)
   && decide ([ea,eb].length+([]:List Keyword).length+(if ([]:List Keyword).isEmpty then 0 else 1)<30))=true:=by rfl)
  (hline:(apos.endLine == cpos.line)=true:=by rfl) (hs:starEach [ea,eb] X.env=(false,eval ea X.env)::starEach [eb] X.env:=by rfl) (hs2:starEach [eb] X.env=(false,eval eb X.env)::starEach [] X.env:=by rfl) (hplain:(backTo cpos (starEach [eb] X.env)).any (·.1)=false:=by rfl) :
  MA X (.Call (.Attribute (.Name x p) "insert" apos) [ea,eb] [] cpos) (Q0 i fa fb) :=
 imp (aAT PySem.F.plainAttrs_list PySem.F.slot_list_insert PySem.F.type_list_insert O4 (nZ hN hv hd hcd) (iE ha (iE hb qJ hs2) hs) hbase hfew hline hs hplain) λ_ _ _ h=>VX h
end
section
variable{X:Cx}
section
variable{ls fs:List Str}{fr:List Nat}{sc:Scope}{tg iter elt:Expr}{ifs:List Expr}{pos:Pos}{i:Nat}{x:Str}{spos pos':Pos}
theorem JN{ti:WI}{g:GE}{tf:WT}{te:WE}(nd:X.N.Nodup)(hc:X.calm=true)(hi:UN X tg iter ti)
  (hg:∀ cl C pn ex s H,(blk X (ls++fs) sc cl C pn ex s H).N.Nodup->PG4 (blk X (ls++fs) sc cl C pn ex s H) ls.length tg g) (hf:∀ cl C pn ex s H,N8 (blk X (ls++fs) sc cl C pn ex s H) ifs tf) (he:∀ cl C pn ex s H,dF (blk X (ls++fs) sc cl C pn ex s H) elt te)
  (hx0:X.N[i]? = some x:=by rfl) (hx:X.env.scope.names.lookup x=some .local:=by rfl) (hsw:swapsWith (.ListComp elt [⟨tg,iter,ifs,0⟩] sc pos) (some (.Name x pos')) spos.line X.env=pure true:=by rfl)
  (B:chk X.env.scope.names sc X.N ls fs fr=true:=by rfl) (hs:∀ x,foldedSetIterable iter X.env x=pure x:=by intro _; rfl):DO X (.Assign [.Name x pos'] (.ListComp elt [⟨tg,iter,ifs,0⟩] sc pos) spos) (aA6 i (FY ls.length fr ti g tf te)) :=
 lI (yH (g:=yI X.K ls.length (ls++fs).length g) (tf:=liftT X.K tf) (te:=lift X.K te) nd hx0 hx hc (mO B) hi (λcl C pn ex s H=>hg cl C pn ex s H (mO B).nd) hf he hsw hs) λBd σ H aF1=>by
 obtain ⟨H₀,S,w,ρ,G,E,hl,st,ht,ok⟩:=aF1;exact tR (n:=(ls++fs).length) (by rw [List.length_append,(mO B).DN]) ⟨_,bU ρ,_,st.QQ,st.all,ht,λp xs H' ds hp hp' s' d' q'=>ok.nx w _ H' _ (by rw [length_set]; exact hl) ((st.same s').mN (d:=.lst ds) (by rw [hl]; exact jV hx0) (by simp only [Dn]; exact ⟨p,xs,rfl,hp',st.QR p hp,aP.AB q'.1 d'⟩)) q'.2⟩
variable{it:AF}{g:HE}{t:TF}{e:EF}
theorem aF2{f:EF}{ρ:cJ}{Q:D->Prop}{o:Out}{d:D}(h:f ρ=some d)(hl:p5 d=true)(q:Q d):wE f ρ λd=>(match d with | .lst ds=>qZ ds=true | _=>False)/\Q d:=by refine ⟨d,h,?_,q⟩;cases d<;>first | exact hl | cases hl
theorem JO(nd:X.N.Nodup)(hc:X.calm=true)(hi:PI4 X tg iter it)
  (hg:∀ cl C pn ex s H,(blk X (ls++fs) sc cl C pn ex s H).N.Nodup->U7 (blk X (ls++fs) sc cl C pn ex s H) ls.length tg g) (hf:∀ cl C pn ex s H,U8 (blk X (ls++fs) sc cl C pn ex s H) ifs t) (he:∀ cl C pn ex s H,dA (blk X (ls++fs) sc cl C pn ex s H) elt e)
  (hx0:X.N[i]? = some x:=by rfl) (hx:X.env.scope.names.lookup x=some .local:=by rfl) (hsw:swapsWith (.ListComp elt [⟨tg,iter,ifs,0⟩] sc pos) (some (.Name x pos')) spos.line X.env=pure true:=by rfl)
  (B:chk X.env.scope.names sc X.N ls fs fr=true:=by rfl) (hs:∀ x,foldedSetIterable iter X.env x=pure x:=by intro _; rfl):vW X (.Assign [.Name x pos'] (.ListComp elt [⟨tg,iter,ifs,0⟩] sc pos) spos) (mW i (bQ ls.length fr it g t e)) :=
 cS (JN nd hc hi hg hf he hx0 hx hsw B hs) λE ρ w=>by
  unfold wS mW at w
  cases h:bQ ls.length fr it g t e (bU ρ) with
  | none=>rw [h] at w; exact w.elim
  | some d =>
   rw [h] at w;dsimp only at w;by_cases hl:p5 d=true
   .rw [if_pos hl] at w;exact JG _ _ (aF2 (o:=.no) (Q:=λd=>E.nx (ρ.set i (.ro d))) h hl w)
   .rw [if_neg hl] at w; exact w.elim
end
end
section
variable{X:Cx}
end
end L5
end
section
namespace L6
open PySem PySem.Spec PyProof.Rows
noncomputable def Up(l:List Nat):Prop:=l.Pairwise (·<·)
theorem VY(xs:Array Nat)(j:Nat)(up:Up xs.toList):∀ f lo hi,hi - lo<=f->lo<=hi->hi<=xs.size->(∀ i,i<lo->xs.getD i j<j)->(∀ i,hi<=i->i<xs.size->j<=xs.getD i j) ->
  SetTable.below.go xs j f lo hi<=xs.size/\(∀ i,i<SetTable.below.go xs j f lo hi->xs.getD i j<j) /\ ∀ i,SetTable.below.go xs j f lo hi<=i->i<xs.size->j<=xs.getD i j:=by
 have mono:∀ i k,i<=k->k<xs.size->xs.getD i j<=xs.getD k j:=λi k hik hk=>by
  by_cases e:i=k
  .subst e; exact Nat.le_refl _
  .have h1:i<xs.size:=by omega
   have:=List.pairwise_iff_getElem.mp up i k (by simpa using h1) (by simpa using hk) (by omega);simp only [Array.getD,h1,hk,dif_pos];simpa using Nat.le_of_lt this
 intro f
 induction f with
 | zero =>
  intro lo hi h1 h2 h3 h4 h5;have:lo=hi:=by omega
  subst this;exact ⟨h3,h4,h5⟩
 | succ f ih =>
  intro lo hi h1 h2 h3 h4 h5;unfold SetTable.below.go;by_cases hl:lo<hi
  .rw [if_pos hl];dsimp only;by_cases hm:xs.getD ((lo+hi) / 2) j<j
   .rw [if_pos hm];refine ih _ _ (by omega) (by omega) h3 (λi hi'=>?_) h5;exact Nat.lt_of_le_of_lt (mono i ((lo+hi) / 2) (by omega) (by omega)) hm
   .rw [if_neg hm];refine ih _ _ (by omega) (by omega) (by omega) h4 λi hi' hs=>?_;exact Nat.le_trans (Nat.not_lt.mp hm) (mono _ i hi' hs)
  .rw [if_neg hl];have:lo=hi:=by omega
   subst this;exact ⟨h3,h4,h5⟩
theorem below_at{xs:Array Nat}(up:Up xs.toList)(j:Nat):SetTable.below xs j<=xs.size/\(∀ i,i<SetTable.below xs j->xs.getD i j<j) /\ ∀ i,SetTable.below xs j<=i->i<xs.size->j<=xs.getD i j :=
 VY xs j up _ _ _ (by omega) (by omega) (Nat.le_refl _) (λi h=>by omega) λi h1 h2=>by omega
theorem zV{α:Type}(xs:Array α)(p:Nat)(x:α):(SetTable.insertAt xs p x).toList=xs.toList.take p++x::xs.toList.drop p:=by unfold SetTable.insertAt;simp [Array.toList_extract,List.extract_eq_take_drop];refine take_of_length_le ?_; simp
theorem aCe{xs:Array Nat}(up:Up xs.toList){j:Nat}(hj:xs[SetTable.below xs j]?≠some j):Up (SetTable.insertAt xs (SetTable.below xs j) j).toList:=by
 obtain ⟨h1,h2,h3⟩:=below_at up j;rw [zV];unfold Up at *;rw [List.pairwise_append];refine ⟨up.sublist (List.take_sublist ..),?_,λa ha b hb=>?_⟩
 .rw [List.pairwise_cons];refine ⟨λb hb=>?_,up.sublist (List.drop_sublist ..)⟩;obtain ⟨i,hi,e'⟩:=getElem_of_mem hb; have e:=e';rw [List.getElem_drop] at e;have hs:SetTable.below xs j+i<xs.size:=by simp at hi; omega
  have h4:=h3 (SetTable.below xs j+i) (by omega) hs;have e2:xs.getD (SetTable.below xs j+i) j=b:=by simp only [Array.getD,hs,dif_pos]; simpa using e
  rw [e2] at h4;by_cases e3:b=j
  .exfalso;subst e3;by_cases hi0:i=0
   .subst hi0;apply hj;rw [Array.getElem?_eq_getElem (by simpa using hs)];simpa using e
   .have hs0:SetTable.below xs b<xs.size:=by omega
    have q:=List.pairwise_iff_getElem.mp up (SetTable.below xs b) (SetTable.below xs b+i) (by simpa using hs0) (by simpa using hs) (by omega);have h5:=h3 (SetTable.below xs b) (Nat.le_refl _) hs0;have e4:xs.getD (SetTable.below xs b) b=xs[SetTable.below xs b]:=by simp [Array.getD,hs0]
    rw [e] at q;simp only [Array.getElem_toList] at q;omega
  .omega
 .obtain ⟨i,hi,e⟩:=getElem_of_mem ha;have hi2:i<SetTable.below xs j:=by simp at hi; omega
  have hs:i<xs.size:=by omega
  have h4:=h2 i hi2;have e2:xs.getD i j=a:=by simp only [Array.getD,hs,dif_pos]; rw [<- e]; simp
  rw [e2] at h4;rcases List.mem_cons.1 hb with hb | hb
  .omega
  .obtain ⟨k,hk,e5⟩:=getElem_of_mem hb;rw [List.getElem_drop] at e5;have hs2:SetTable.below xs j+k<xs.size:=by simp at hk; omega
   have q:=List.pairwise_iff_getElem.mp up i (SetTable.below xs j+k) (by simpa using hs) (by simpa using hs2) (by omega);rw [e5] at q;have e6:xs.toList[i]=a:=by rw [<- e]; simp
   rw [e6] at q;exact q
theorem VZ(n:Nat):Up (Array.range n).toList:=by unfold Up;rw [Array.toList_range];exact pairwise_lt_range
structure W6 (led:Bool) (t:SetTable) (n:Nat):Prop where
 fit:t.fits n=true
 led:t.led=led
 no:t.dummies=#[]
 up:Up t.place.toList
theorem mR{led:Bool}{t:SetTable}(n:Nat)(h:t.led=led):W6 led (t.standIn n) n:=by refine ⟨?_,h,rfl,VZ n⟩;unfold SetTable.fits SetTable.standIn SetTable.fill;simp;omega
theorem GQ{t:SetTable}{h:Int}(hn:t.dummies=#[]){f:Nat->Int}:∀ (k:Nat) (p:SetTable.Probe) {j:Nat} {d:Option Nat},p.dummy=none->SetTable.probe.go t f h k p=some (.empty j d)->d=none/\t.place[SetTable.below t.place j]?≠some j:=by
 intro k
 induction k with
 | zero=>intro p j d _ e; unfold SetTable.probe.go at e; cases e
 | succ k ih =>
  intro p j d hd e;unfold SetTable.probe.go at e;have adv:(t.advance p).dummy=none:=by unfold SetTable.advance; split<;>exact hd
  cases q:t.slot p.j with
  | empty =>
   rw [q] at e;injection e with e;injection e with e1 e2;subst e1;refine ⟨by rw [<- e2]; exact hd,λz=>?_⟩;unfold SetTable.slot at q;dsimp only at q;rw [z] at q;simp at q
  | dummy =>
   exfalso;unfold SetTable.slot at q;dsimp only at q;split at q
   .cases q
   .have:SetTable.has t.dummies p.j=false:=by rw [hn]; unfold SetTable.has; simp
    rw [this] at q;cases q
  | live i =>
   rw [q] at e;dsimp only at e;split at e
   .cases e
   .exact ih _ adv e
theorem W6.layNew{led:Bool}{t:SetTable}{es:Array (Int×Value)}(h:W6 led t es.size)(k:Int)(x:Value):W6 led (layNew t es k x).2.1 (layNew t es k x).1.size:=by
 unfold PySem.layNew
 cases q:t.freeSlot k with
 | none =>
  dsimp only;rw [Array.size_push];exact mR _ h.led
 | some r =>
  obtain ⟨slot,wd⟩:=r;dsimp only;unfold SetTable.freeSlot at q;have hp:t.place[SetTable.below t.place slot]?≠some slot:=by
   unfold SetTable.probe at q;split at q
   .rename_i j d e;obtain ⟨e1,e2⟩:=GQ h.no _ _ rfl e;subst e1;cases q;exact e2
   .cases q
  have hd:SetTable.has t.dummies slot=false:=by rw [h.no]; simp [SetTable.has]
  have ep:t.put slot=({ t with place:=SetTable.insertAt t.place (SetTable.below t.place slot) slot },SetTable.below t.place slot):=by unfold SetTable.put;rw [hd];rfl
  rw [ep];dsimp only;unfold SetTable.orStandIn;split
  .rename_i hf;exact ⟨hf,h.led,h.no,aCe h.up hp⟩
  .exact mR _ h.led
theorem sH{β:Type}(f:Nat->Option β):∀ l:List Nat,Up l->Up ((l.filterMap λj=>(f j).map (j,·)).map (·.1))
 | [],_=>by simp [Up]
 | a::l,h=>by
  have h':=List.pairwise_cons.1 h;have ih:=sH f l h'.2;rw [filterMap_cons]
  cases q:f a with
  | none=>exact ih
  | some b =>
   dsimp only [Option.map_some];rw [map_cons];refine List.pairwise_cons.mpr ⟨λc hc=>?_,ih⟩;obtain ⟨p,hp,e⟩:=List.mem_map.mp hc;obtain ⟨j,hj,e2⟩:=List.mem_filterMap.mp hp
   cases q2:f j with
   | none=>rw [q2] at e2; cases e2
   | some b2 =>
    rw [q2] at e2;cases e2;rw [<- e];exact h'.1 j hj
theorem W6.aF3{led:Bool}{t:SetTable}{es:Array (Int×Value)}(h:W6 led t es.size)(wanted:Nat):W6 led (relayAll t es wanted).2.1 (relayAll t es wanted).1.size:=by
 unfold relayAll
 cases q:t.relaid (es.map (·.1)) wanted with
 | none=>exact mR _ h.led
 | some r =>
  obtain ⟨t',order⟩:=r;dsimp only;split
  .rename_i hc;rw [Bool.and_eq_true] at hc;unfold SetTable.relaid SetTable.laid at q
   cases q2:SetTable.layClean (SetTable.sizeAbove wanted - 1) (es.map (·.1)) with
   | none=>rw [q2] at q; cases q
   | some owner =>
    rw [q2] at q;cases q;refine ⟨hc.2,h.led,rfl,?_⟩;dsimp only;exact sH _ _ pairwise_lt_range
  .exact mR _ h.led
theorem V0(led:Bool):W6 led (SetTable.fresh 0 0 led) 0:=⟨by rfl,rfl,rfl,List.Pairwise.nil⟩
noncomputable def V1(e:Int×Value):Int:=match e.2 with
 | .int m _=>m
 | _=>0
noncomputable def MN(e:Int×Value):Prop:=∃ m t,e=(hashInt m,Value.int m t)
noncomputable def vH(led:Bool)(o:Obj)(ns:List Int):Prop:=∃ es ep t,o.ExactSet/\o.data=.set es ep t/\(∀ e∈es.toList,MN e)/\(es.toList.map V1).Perm ns/\W6 led t es.size/\es.size<scanBound
noncomputable def JP(ns:List Int)(k:Int):List Int:=if k∈ns then ns else ns++[k]
theorem V2(prog:Program)(w:World){l:List (Int×Value)}(h:∀ e∈l,MN e):ElemsOf (intKind prog w) l:=λe he=>by obtain ⟨m,t,rfl⟩:=h e he;exact ⟨⟨m,intKind_is prog w m t,rfl⟩,rfl⟩
theorem V3(prog:Program)(w:World){e:Int×Value}(h:MN e)(k:Int):(intKind prog w).is k e.2=decide (k=V1 e):=by obtain ⟨m,t,rfl⟩:=h;exact KeyKind.is_eq_decide (intKind_is prog w m t) k
section
variable{prog:Program}{w:World}{A:Around}{E:Value->Shared->Prop}{s:Shared}
theorem stored{a:Addr}{o:Obj}{es es':Array (Int×Value)}{ep:Nat}{t t':SetTable}(ho:s.heap.get? a=some o)(hd:o.data=.set es ep t) :
  (s.heap.update a (Obj.putSet es' t')).get? a=some { o with data:=.set es' (ep+1) t' }:=by
 have q:=Heap.get?_update_self (Obj.putSet es' t') ho (by rw [putSet_of es' t' hd]; rfl)
 rwa [putSet_of es' t' hd] at q
theorem add_int{a:Addr}{o:Obj}{ns:List Int}{k:Int}{tk:Tok}{led:Bool}{Q:Bool->Shared->Prop}(ho:s.heap.get? a=some o)(hi:vH led o ns)(hb:ns.length+1<scanBound)
  (h:∀ h' o' b,Heap.SameBut a s.heap h'->h'.get? a=some o'->vH led o' (JP ns k)->Q b { s with heap:=h',toks:=s.toks+1 }):wpAny (model prog w) A (setAdd a (.int k tk)) Q E s:=by
 obtain ⟨es,ep,t,hx,hd,hE,hp,hT,hs⟩:=hi;have hel:=V2 prog w hE;have calm:∀ (b:Bool) (s1:Shared) (Q1:Unit->Shared->Prop),Q1 () s1->wpAny (model prog w) A (match b with | true=>rule "set.scan.the-table-gave-way" | false=>pure ()) Q1 E s1:=λb s1 Q1 q=>by
  cases b
  .exact wpAny_pure q
  .exact wpAny_rule q
 have hk:=intKind_is prog w k tk;unfold setAdd;refine wpAny_holding (wpAny_bind ((intKind prog w).pyHash hk ?_));unfold setAddHashed setAddHashedIn setAddByScan;refine wpAny_holding (wpAny_bind (wpAny_setState_of (s:={ s with toks:=s.toks+1 }) ho hd hT.fit ?_));dsimp only;rw [if_pos (byScan_of (x:=.int k tk) rfl hs hel)];refine wpAny_bind (wpAny_bind (wpAny_rule (wpAny_bind (wpAny_setScan_of (s:={ s with toks:=s.toks+1 }) hk ho hd hT.fit hel ?_))))
 cases hf:es.toList.findIdx? (λe=>(intKind prog w).is k e.2) with
 | some j =>
  obtain ⟨hj,e,_⟩:=List.findIdx?_eq_some_iff_getElem.1 hf;have hm:=getElem_mem hj;rw [V3 prog w (hE _ hm),decide_eq_true_eq] at e;have kn:k∈ns:=hp.mem_iff.1 (e▸mem_map_of_mem hm);apply wpAny_pure; apply wpAny_pure;refine h s.heap o false (Heap.SameBut.refl ..) ho ?_;rw [JP,if_pos kn];exact ⟨es,ep,t,hx,hd,hE,hp,hT,hs⟩
 | none =>
  have kn:k∉ns:=λz=>by obtain ⟨e,he,ee⟩:=List.mem_map.1 (hp.mem_iff.2 z);have q:=List.findIdx?_eq_none_iff.1 hf e he;rw [V3 prog w (hE e he),ee] at q;simp at q
  dsimp only;have p1:=layNew_perm t es (hashInt k) (.int k tk);have t1:=hT.layNew (hashInt k) (.int k tk);show wpAny _ _ _ _ _ _;have eh:(intKind prog w).hash k=hashInt k:=rfl;rw [eh];generalize layNew t es (hashInt k) (.int k tk)=L at p1 t1 ⊢;obtain ⟨es1,tb,wd,gv⟩:=L;rw [Array.toList_push] at p1;dsimp only at p1 t1 ⊢;have e1:∀ e∈es1.toList,MN e:=λe he=>by
   rcases List.mem_append.1 (p1.mem_iff.1 he) with z | z
   .exact hE e z
   .exact ⟨k,tk,List.mem_singleton.1 z⟩
  have n1:(es1.toList.map V1).Perm (ns++[k]):=(p1.map V1).trans (by rw [map_append]; exact hp.append_right _);have l1:es1.size=ns.length+1:=by have q:=n1.length_eq; simpa using q
  have z1:es1.size<scanBound:=by omega
  have fin:∀ h' o',Heap.SameBut a s.heap h'->h'.get? a=some o'->vH led o' (ns++[k])->Q true { s with heap:=h',toks:=s.toks+1 }:=λh' o' q1 q2 q3=>h h' o' true q1 q2 (by rw [JP,if_neg kn]; exact q3);have tail:∀ tb2:SetTable,W6 led tb2 es1.size->wpAny (model prog w) A (do
    storeSet a es1 tb2
    if (!wd&&tb2.tooFull)=true then do
      (match (relayAll tb2 es1 (SetTable.grown es1.size)).2.2 with | true=>rule "set.scan.the-table-gave-way" | false=>pure ())
      storeSet a (relayAll tb2 es1 (SetTable.grown es1.size)).1 (relayAll tb2 es1 (SetTable.grown es1.size)).2.1
      pure (some true)
     else pure (some true)) (λr s'=>wpAny (model prog w) A (match r with | some added=>pure added | none=>setAddHashedIn a (.int k tk) (hashInt k) 99999) Q E s') E { s with toks:=s.toks+1 }:=λtb2 t2=>by
   refine wpAny_bind (wpAny_storeSet_of (s:={ s with toks:=s.toks+1 }) ho hd ?_ (fits_of_scanBound z1));have g1:=stored (es':=es1) (t':=tb2) ho hd;have i1:vH led { o with data:=.set es1 (ep+1) tb2 } (ns++[k]):=⟨es1,ep+1,tb2,hx,rfl,e1,n1,t2,z1⟩;split
   .have p2:=relayAll_perm tb2 es1 (SetTable.grown es1.size);have t3:=t2.aF3 (SetTable.grown es1.size);generalize relayAll tb2 es1 (SetTable.grown es1.size)=L at p2 t3 ⊢;obtain ⟨es2,tc,gv2⟩:=L;dsimp only at p2 t3 ⊢;have l2:es2.size=es1.size:=by have q:=p2.length_eq; simpa using q
    refine wpAny_bind (calm gv2 _ _ (wpAny_bind (wpAny_storeSet_of (s:={ s with heap:=s.heap.update a (Obj.putSet es1 tb2),toks:=s.toks+1 }) g1 rfl (wpAny_pure (wpAny_pure ?_)) (fits_of_scanBound (by omega)))));exact fin _ _ ((Heap.SameBut.update ..).trans (Heap.SameBut.update ..)) (stored (s:={ s with heap:=s.heap.update a (Obj.putSet es1 tb2) }) g1 rfl) ⟨es2,_,tc,hx,rfl,λe he=>e1 e (p2.mem_iff.1 he),(p2.map V1).trans n1,t3,by omega⟩
   .exact wpAny_pure (wpAny_pure (fin _ _ (Heap.SameBut.update ..) g1 i1))
  refine wpAny_bind (calm gv _ _ ?_);split
  .apply wpAny_bind; apply wpAny_pure;exact tail _ t1
  .apply wpAny_bind; apply wpAny_pure;exact tail _ t1
end
noncomputable def gM:List Int->List Int->List Int
 | ns,[]=>ns
 | ns,k::r=>gM (JP ns k) r
noncomputable def lP(w:World):Bool:=!(w.params.followText "set-order")
noncomputable def jX(led:Bool):Obj:={ cls:=.type "set",dict:=none,data:=.set #[] 0 (.fresh 0 0 led) }
theorem O5(led:Bool):vH led (jX led) []:=⟨#[],0,.fresh 0 0 led,⟨rfl,rfl,rfl⟩,rfl,λe he=>by simp at he,List.Perm.nil,V0 led,by decide⟩
theorem GR(ns:List Int)(k:Int):(JP ns k).length<=ns.length+1:=by
 unfold JP;split
 .omega
 .simp
section
variable{prog:Program}{w:World}{A:Around}{E:Value->Shared->Prop}{s:Shared}
theorem ZZ(x:Value):MeetsIn prog w (Builtin.«set.__new__» ⟨[.type "set",x],[]⟩) (λ_ R s=>R (.ok (.ret (.ref s.heap.objs.size))) { s with heap:=s.heap.push (jX (lP w)) }):=by
 refine .of_wp λA R s h=>?_;have hs:=sub_set_self;unfold Builtin.«set.__new__» Builtin.Frozenset.newClass newSet setsByText
 wp_walk
 apply wpAny_askSetting; apply wpAny_pure;dsimp only;simp only [newObj];exact wpAny_bind (wpAny_alloc (wpAny_pure (wpAny_pure ⟨_,rfl,h⟩)))
end
namespace Si
end Si
section
variable{prog:Program}{w:World}{A:Around}{E:Value->Shared->Prop}{s:Shared}
end
end L6
end
section
namespace L6
open PySem PySem.Spec PyProof.Rows
section
variable{prog:Program}{w:World}{A:Around}{E:Value->Shared->Prop}{s:Shared}
end
section
variable{prog:Program}{w:World}{A:Around}{E:Value->Shared->Prop}{s:Shared}
end
section
variable{prog:Program}{w:World}{A:Around}{E:Value->Shared->Prop}{s:Shared}
end
end L6
end
section
namespace L6
open PySem PySem.Spec PyProof.Rows L2 L3 L4
theorem uU:∀ (ks ns:List Int),gM ns ks=ks.foldl putN ns
 | [],ns=>rfl
 | k::ks,ns=>by rw [gM,uU ks,foldl_cons];rfl
theorem yV:∀ (ks ns:List Int),(gM ns ks).length<=ns.length+ks.length
 | [],ns=>Nat.le_refl _
 | k::ks,ns=>by have a:=yV ks (JP ns k);have b:=GR ns k;rw [gM,length_cons];omega
noncomputable def aCf(w:World)(a:Addr)(ns:List Int):HO:=.ext λh=>∃ o,h.get? a=some o/\vH (lP w) o ns
section
variable{X:Cx}
end
section
variable{X:Cx}
end
section
variable{prog:Program}{w:World}{A:Around}{E:Value->Shared->Prop}{s:Shared}
end
section
variable{X:Cx}
end
theorem GS{prog:Program}{w:World}{A:Around}{E:Value->Shared->Prop}{s:Shared}{t:Addr}{its:List Value}{Q:List Value->Shared->Prop}(ht:IsTup s.heap t its.toArray)(hz:its.length<=sizeLine)
  (h:∀ h',s.heap.objs.size<=h'.objs.size->(∀ b u,s.heap.get? b=some u->h'.get? b=some u)->Q its { s with heap:=h' }):wpAny (model prog w) A (collect (.ref t)) Q E s:=by
 obtain ⟨ot,hot,hct,nt,hdt⟩:=id ht;unfold collect;apply wpAny_bind;apply wpAny_runValue;refine codeAny_builtin F.entry_proto_collect ?_;rw [Around.under_plainId F.plain_proto_collect]
 wp_walk
 refine ⟨plainId_quiet F.plain_list_iadd _,codeAny_builtin F.entry_list_iadd ?_⟩;rw [Around.under_plainId F.plain_list_iadd];have g0:(s.heap.push { cls:=.type "list",data:=.seq #[] }).get? s.heap.objs.size=some { cls:=.type "list",data:=.seq #[] 0 }:=Heap.get?_push_size _ rfl;refine wpAny_extend_seq (R:=wants _ _) (s:={ s with heap:=s.heap.push { cls:=.type "list",data:=.seq #[] } }) s.heap.objs.size t _ 0 (.inr rfl) g0 (Heap.get?_push_of_some _ hot) hct hdt ?_ (by simpa using hz);have g1:=Heap.get?_update_self (Obj.mapSeq (· ++ its.toArray)) g0 rfl;apply wpAny_bind;apply wpAny_load g1;have fin:=h ((s.heap.push { cls:=.type "list",data:=.seq #[] }).update s.heap.objs.size (Obj.mapSeq (· ++ its.toArray))) (Nat.le_of_lt (Heap.lt_size g1)) λb u e=>(Heap.get?_update_other _ _ (Nat.ne_of_gt (Heap.lt_size e))).trans (Heap.get?_push_of_some _ e);refine wpAny_pure ?_;simpa using fin
theorem JQ{prog:Program}{w:World}{A:Around}{E:Value->Shared->Prop}{s:Shared}{t:Addr}{its:List Value}{ns:List Int}{Q:Value->Shared->Prop}(ht:IsTup s.heap t its.toArray)(hv:IntsAre its ns)(h64:ns.length<64)
  (h:∀ h' tk l out ns' e,(∀ b u,s.heap.get? b=some u->h'.get? b=some u)->s.heap.objs.size<=l->IntsAre out ns'->ns'.Perm ns->ns'.Pairwise (· <= ·)->h'.get? l=some (seqObj "list" out.toArray e)->Q (.ref l) { s with heap:=h',toks:=tk }) :
  wpAny (model prog w) A (call (.builtin "sorted") [.ref t]) Q E s:=by
 have lv:its.length<64:=by rw [IntsAre.length hv]; exact h64
 apply Calls.call_function_entry kind_sorted plain_sorted entry_sorted (args_sorted1 _);unfold Builtin.«sorted»;refine wpAny_bind (m:=checkCount "sorted" 1 1 _) (wpAny_pure (wpAny_bind (GS (A:=A.in1) ht (by rw [sizeLine_eq]; omega) λh1 l1 keep=>?_)));apply wpAny_bind; refine wpAny_newList ?_ (by rw [sizeLine_eq]; omega);have g1:(h1.push (seqObj "list" its.toArray 0)).get? h1.objs.size=some (seqObj "list" its.toArray 0):=Heap.get?_push_size _ rfl;refine wpAny_bind (wpAny_holding (wpAny_call_entry slot_list_sort ⟨_,g1,rfl⟩ entry_list_sort (list_sort_tree g1 hv lv λout ns' a1 a2 a3=>⟨_,rfl,?_⟩) (args_list_sort _)));obtain ⟨e,g2⟩:=sortedHeap_at (out:=out) g1;refine wpAny_pure ⟨_,rfl,h _ s.toks _ out.toList ns' e (λb u q=>?_) l1 a1 a2 a3 (by simpa using g2)⟩;have lb:=Heap.lt_size (keep b u q);rw [sortedHeap_old (Nat.ne_of_lt lb) (by rw [Heap.size_push]; exact Nat.lt_succ_of_lt lb)];exact Heap.get?_push_of_some _ (keep b u q)
section
variable{X:Cx}
noncomputable def aCg(K:PySem.W.Frag):List V->Hp->VK->Prop:=λxs H Q=>∃ (a:Addr) (ns:List Int),xs=[.ref a]/\gR K H a (ns.map V.int)/\ns.length<64 /\ ∀ ns':List Int,ns'.Perm ns->ns'.Pairwise (· <= ·) -> ∀ p,H p=none->Q (.ref p) (upd H p (.lst (ns'.map V.int)))
theorem JR:fP X (.builtin "sorted") (aCg X.K):=by
 intro pins s σ H xs us Q I r h;obtain ⟨a,ns,rfl,ha,h64,q⟩:=h;obtain ⟨u,rfl,ru⟩:=vals1 r;cases ru;obtain ⟨its,rv,pl,hz⟩:=I.tuple ha;refine JQ pl (intsAre_of rv) h64 λh' tk l out ns' e keep hl a1 a2 a3 g=>?_;have hz2:ns'.length<=sizeLine:=by rw [a2.length_eq,sizeLine_eq]; omega
 have I1:=I.laid (t':=tk) (a:=l) (o:=.lst (ns'.map V.int)) keep hl ⟨by rw [length_map]; exact hz2,out,e,oZ a1,by simpa [seqObj] using g⟩;exact ⟨.ref l,_,I1,rfl,q ns' a2 a3 l (I.hok.fresh hl)⟩
theorem V4{p pos:Pos}{e:Expr}{t:AF}(hm:X.mg "sorted" = none)(ha:BH X [e] t)(hg:Gl X "sorted" := by rfl)(he:starEach [e] X.env=(false,eval e X.env)::starEach [] X.env:=by rfl) :
  kK X (.Call (.Name "sorted" p) [e] [] pos) (cN nH t) :=
 imp (n5 JR hg hm PyProof.Rows.boot_sorted ha (by decide) (by decide) he (by rfl)) λσ H Q aF4=>by
  obtain ⟨S,ρ,Q3,fc,sl,⟨d,ed,q3⟩,k⟩:=aF4;obtain ⟨ds,eds,ed⟩:=bnd ed;refine ⟨S,ρ,λes=>es=ds,fc,sl,⟨_,eds,rfl⟩,λvs H1 es s1 d1 q1=>?_⟩;subst q1;unfold nH at ed;split at ed
  .rename_i a;obtain ⟨ns,e1,ed⟩:=bnd ed;by_cases hl:ns.length<64
   .rw [if_pos hl] at ed;cases ed;rw [ints_of e1] at d1;obtain ⟨v,r,rfl,h1,h2⟩:=d1.bV;simp only [aP] at h2;subst h2;simp only [Dn] at h1;obtain ⟨t1,xs,rfl,ht,dt⟩:=h1;rw [aP.ints.mp dt] at ht;refine ⟨t1,ns,rfl,gR.of ht,hl,λns' pm so l hl2=>?_⟩;have e3:ns' = sortI ns:=qN (pm.trans (oC _).symm) so (kW _);subst e3;exact k l _ _ _ (s1.free hl2) aV (s1.trans (aR hl2)) (aP.ints.mpr rfl) q3
   .rw [if_neg hl] at ed; cases ed
  .cases ed
end
end L6
end
section
namespace L7
open PySem PySem.Spec PyProof.Rows L2 L3 L4 LL
noncomputable def kI(ns:List Int):List Key:=ns.map Sum.inl
theorem aF5(ns:List Int):(kI ns).map kV=ns.map V.int:=by unfold kI;rw [map_map];rfl
theorem V5:∀ {a b:List Int},kI a=kI b->a=b
 | [],[],_=>rfl
 | [],_::_,h=>by cases h
 | _::_,[],h=>by cases h
 | x::a,y::b,h=>by unfold kI at h;rw [map_cons,map_cons] at h;injection h with h1 h2;injection h1 with h1;rw [h1,V5 h2]
section
variable(rd:List Int->List (List Int))
noncomputable def Memo(n:Nat)(kvs:List (List Key×V)):Prop:=∀ k v,gE kvs k=some v -> ∃ ns:List Int,k=kI ns/\v=.int (Wf rd (n - ns.length) ns)
theorem Memo.put{rd:List Int->List (List Int)}{n:Nat}{kvs:List (List Key×V)}(h:Memo rd n kvs)(a:List Int):Memo rd n (putK kvs (kI a) (.int (Wf rd (n - a.length) a))):=λk v e=>by
 rw [TX] at e;split at e
 .rename_i z;cases e;exact ⟨a,z,rfl⟩
 .exact h k v e
theorem Memo.at{rd:List Int->List (List Int)}{n:Nat}{kvs:List (List Key×V)}(h:Memo rd n kvs){a:List Int}{v:V}(e:gE kvs (kI a)=some v):v=.int (Wf rd (n - a.length) a):=by obtain ⟨ns,e1,e2⟩:=h _ _ e;rw [V5 e1];exact e2
noncomputable def But(p:Addr)(H H':Hp):Prop:=∀ b o,b≠p->H b=some o->H' b=some o
theorem But.trans{p:Addr}{H H1 H2:Hp}(a:But p H H1)(b:But p H1 H2):But p H H2:=λc o n h=>b c o n (a c o n h)
theorem But.of_same{p:Addr}{H H1:Hp}(a:Same H H1):But p H H1:=λc o _ h=>a c o h
theorem But.upd{p:Addr}{H:Hp}{o:HO}:But p H (upd H p o):=λc q n h=>by rw [bA n]; exact h
theorem MO{K:PySem.W.Frag}{S:Addr->Prop}{H H':Hp}{p:Addr}{xs:List Int}{v:V}{kvs:List (List Key×V)}(hp:H p=some (.dT kvs))(b:But p H H')(h:Dn K S H (tupI xs) v):Dn K S H' (tupI xs) v:=by
 unfold tupI at h ⊢;simp only [Dn] at h ⊢;obtain ⟨a,ys,rfl,ha,da⟩:=h;have ne:a≠p:=λz=>by rw [z,hp] at ha; cases ha
 refine ⟨a,ys,rfl,b _ _ ne ha,?_⟩;rw [aP.ints] at da ⊢;exact da
theorem MP{K:PySem.W.Frag}{S:Addr->Prop}{H H':Hp}{p:Addr}{kvs:List (List Key×V)}(hp:H p=some (.dT kvs))(b:But p H H'):∀ {x:List (List Int)} {vs:List V},aP K S H (x.map tupI) vs->aP K S H' (x.map tupI) vs
 | [],vs,h=>by simpa only [map_nil,aP] using h
 | r::x,vs,h=>by simp only [map_cons,aP] at h ⊢;obtain ⟨v,q,e,h1,h2⟩:=h;exact ⟨v,q,e,MO hp b h1,MP hp b h2⟩
theorem Z0{K:PySem.W.Frag}{S:Addr->Prop}{H H':Hp}{p:Addr}{x:List (List Int)}{v:V}{kvs:List (List Key×V)}(hp:H p=some (.dT kvs))(b:But p H H')(h:Dn K S H (aO x) v):Dn K S H' (aO x) v:=by
 unfold aO at h ⊢;simp only [Dn] at h ⊢;obtain ⟨a,ys,rfl,ha,da⟩:=h;have ne:a≠p:=λz=>by rw [z,hp] at ha; cases ha
 exact ⟨a,ys,rfl,b _ _ ne ha,MP hp b da⟩
noncomputable abbrev All:Addr->Prop:=λ_=>True
end
noncomputable def At(K:PySem.W.Frag)(x:List (List Int))(a:List Int)(p:Addr)(σ:L2.St)(H:Hp):Prop :=
 ∃ vo va,σ[0]? = some (some vo)/\Dn K All H (aO x) vo/\σ[1]? = some (some va)/\Dn K All H (tupI a) va/\σ[2]? = some (some (.ref p))
theorem At.but{K:PySem.W.Frag}{x:List (List Int)}{a:List Int}{p:Addr}{σ:L2.St}{H H':Hp}{kvs:List (List Key×V)}(h:At K x a p σ H)(hp:H p=some (.dT kvs))(b:But p H H'):At K x a p σ H':=by obtain ⟨vo,va,h1,h2,h3,h4,h5⟩:=h;exact ⟨vo,va,h1,Z0 hp b h2,h3,MO hp b h4,h5⟩
theorem At.key{K:PySem.W.Frag}{x:List (List Int)}{a:List Int}{p:Addr}{σ:L2.St}{H:Hp}(h:At K x a p σ H):∃ b,σ[1]? = some (some (.ref b))/\H b=some (.tup ((kI a).map kV)):=by obtain ⟨vo,va,h1,h2,h3,h4,h5⟩:=h;unfold tupI at h4;simp only [Dn] at h4;obtain ⟨b,ys,rfl,hb,db⟩:=h4;rw [aP.ints.mp db] at hb;exact ⟨b,h3,by rw [aF5]; exact hb⟩
theorem At.slot{K:PySem.W.Frag}{x:List (List Int)}{a:List Int}{p:Addr}{σ:L2.St}{H:Hp}(h:At K x a p σ H):σ[2]? = some (some (.ref p)):=by obtain ⟨vo,va,h1,h2,h3,h4,h5⟩:=h;exact h5
section
variable{K:PySem.W.Frag}{rd:List Int->List (List Int)}{x:List (List Int)}{Ok:List Int->Prop}{a:List Int}{p:Addr}{σ:L2.St}{H:Hp}{kvs:List (List Key×V)}
structure Parts (K:PySem.W.Frag) (rd:List Int->List (List Int)) (x:List (List Int)) (a:List Int) (C1:TT) (T1:TE) (T3:TS):Prop where
 c1:∀ p σ H Q,At K x a p σ H->(∀ H',Same H H'->Q (decide (a.length=x.length)) H')->C1 σ H Q
 t1:∀ σ H (Q:VK),(∀ H',Same H H'->Q (.int 1) H')->T1 σ H Q
 t3:∀ p (D:Ends) σ H,σ.length=4->At K x a p σ H->a.length<x.length->(∀ (σ':L2.St) (H':Hp) (l:Addr) (ps:List Addr),Same H H'->At K x a p σ' H'->σ'[3]? = some (some (.ref l))->H' l=some (.lst (ps.map V.ref))->ps.length=(rd a).length ->
  (∀ (i:Nat) (q:Addr) (b:List Int),ps[i]? = some q->(rd a)[i]? = some b->H' q=some (.tup (b.map V.int)))->D.nx σ' H')->T3 D σ H
theorem At.same{H':Hp}(h:At K x a p σ H)(hp:H p=some (.dT kvs))(s:Same H H'):At K x a p σ H':=h.but hp (.of_same s)
end
section
variable{K:PySem.W.Frag}{rd:List Int->List (List Int)}{x:List (List Int)}{Ok:List Int->Prop}{a:List Int}{p:Addr}{σ:L2.St}{H:Hp}{kvs:List (List Key×V)}
end
end L7
end
section
namespace L7
open PySem PySem.Spec PyProof.Rows
section
variable{prog:Program}{w:World}{A:Around}{E:Value->Shared->Prop}{s:Shared}{d it:Addr}{o:Obj}{es:Array DictEntry}{ep i:Nat}
end
end L7
end
section
namespace L8
open PySem PySem.Spec PyProof.Rows L2
noncomputable def gO(kvs:List (KX×V×V))(k:KX):Option V:=(kvs.find? λp=>decide (p.1=k)).map (·.2.2)
noncomputable def fB(kvs:List (KX×V×V))(k:KX)(y v:V):List (KX×V×V):=if kvs.any (λp=>decide (p.1=k))=true then kvs.map (λp=>if p.1=k then (p.1,p.2.1,v) else p) else kvs++[(k,y,v)]
noncomputable def KAt(H:Hp):KX->V->Prop
 | .inl k,y=>y=kV k
 | .inr ks,y=>∃ b,y=.ref b/\nX H ks b
noncomputable def sI(kvs:List (KX×V×V))(k:KX):Prop:=∀ p∈kvs,p.1.isLeft=k.isLeft
theorem GU(kvs:List (KX×V×V))(k:KX)(y v:V):(fB kvs k y v).length<=kvs.length+1:=by
 unfold fB;split
 .rw [length_map]; omega
 .simp
noncomputable abbrev PL:List (KX×V×V)->List (Key×Value)->Prop:=Paired λp q=>p.1=.inl q.1/\p.2.1=kV q.1/\RelV p.2.2 q.2
noncomputable abbrev PT(H:Hp):List (KX×V×V)->List (N1×Addr×Value)->Prop:=Paired λp q=>p.1=.inr q.1/\p.2.1=.ref q.2.1/\nX H q.1 q.2.1/\RelV p.2.2 q.2.2
theorem PL.val{kvs:List (KX×V×V)}{vs:List (Key×Value)}(r:PL kvs vs)(k:Key):nW (gO kvs (.inl k)) (valueAt vs k):=by
 induction r with
 | nil=>exact True.intro
 | @cons p q ps qs h t ih =>
  by_cases e:q.1=k
  .have e1:p.1=.inl k:=by rw [h.1,e]
   have a:gO (p::ps) (.inl k)=some p.2.2:=by unfold gO; rw [find?_cons,decide_eq_true e1]; rfl
   have b:valueAt (q::qs) k=some q.2:=by unfold valueAt; rw [find?_cons]; simp [e]
   rw [a,b];exact h.2.2
  .have e1:¬ p.1=.inl k:=λz=>e (by rw [h.1] at z; exact Sum.inl.inj z);have a:gO (p::ps) (.inl k)=gO ps (.inl k):=by unfold gO; rw [find?_cons,decide_eq_false e1]
   have b:valueAt (q::qs) k=valueAt qs k:=by unfold valueAt; rw [find?_cons]; simp [e]
   rw [a,b];exact ih
theorem PT.val{H:Hp}{kvs:List (KX×V×V)}{xs:List (N1×Addr×Value)}(r:PT H kvs xs)(k:N1):nW (gO kvs (.inr k)) ((atKey xs k).map (·.2)):=by
 induction r with
 | nil=>exact True.intro
 | @cons p q ps qs h t ih =>
  by_cases e:q.1=k
  .have e1:p.1=.inr k:=by rw [h.1,e]
   have a:gO (p::ps) (.inr k)=some p.2.2:=by unfold gO; rw [find?_cons,decide_eq_true e1]; rfl
   have b:atKey (q::qs) k=some q.2:=by unfold atKey; rw [find?_cons]; simp [e]
   rw [a,b];exact h.2.2.2
  .have e1:¬ p.1=.inr k:=λz=>e (by rw [h.1] at z; exact Sum.inr.inj z);have a:gO (p::ps) (.inr k)=gO ps (.inr k):=by unfold gO; rw [find?_cons,decide_eq_false e1]
   have b:atKey (q::qs) k=atKey qs k:=by unfold atKey; rw [find?_cons]; simp [e]
   rw [a,b];exact ih
theorem V6(kvs:List (KX×V×V))(k:KX):kvs.any (λp=>decide (p.1=k))=(gO kvs k).isSome:=by
 unfold gO;rw [Option.isSome_map]
 induction kvs with
 | nil=>rfl
 | cons p ps ih =>
  rw [any_cons,find?_cons,ih];cases decide (p.1=k)<;>rfl
theorem PL.put{kvs:List (KX×V×V)}{vs:List (Key×Value)}(r:PL kvs vs)(k:Key){v:V}{u:Value}(rv:RelV v u):PL (fB kvs (.inl k) (kV k) v) (stored vs k u):=by
 have e:kvs.any (λp=>decide (p.1=.inl k))=vs.any (λkv=>kv.1=k):=by
  induction r with
  | nil=>rfl
  | @cons p q ps qs h t ih =>
   rw [any_cons,any_cons,ih,h.1];congr 1;exact decide_eq_decide.2 ⟨λz=>Sum.inl.inj z,λz=>by rw [z]⟩
 unfold fB stored;rw [e];split
 .rename_i hc
  clear hc e
  induction r with
  | nil=>exact .nil
  | @cons p q ps qs h t ih =>
   rw [map_cons,map_cons];refine .cons ?_ ih;by_cases z:q.1=k
   .rw [if_pos z,if_pos (by rw [h.1,z])]; exact ⟨h.1,h.2.1,rv⟩
   .rw [if_neg z,if_neg (λy=>z (by rw [h.1] at y; exact Sum.inl.inj y))]; exact h
 .exact Paired.snoc r ⟨rfl,rfl,rv⟩
theorem PT.put{H:Hp}{kvs:List (KX×V×V)}{xs:List (N1×Addr×Value)}(r:PT H kvs xs)(k:N1){b:Addr}{v:V}{u:Value}(hb:nX H k b)(rv:RelV v u):PT H (fB kvs (.inr k) (.ref b) v) (storedH xs k b u):=by
 have e:kvs.any (λp=>decide (p.1=.inr k))=(atKey xs k).isSome:=by rw [V6];have:=(PT.val r k).pA;rw [Option.isSome_map] at this;exact this
 unfold fB storedH;rw [e];split
 .rename_i hc
  clear hc e
  induction r with
  | nil=>exact .nil
  | @cons p q ps qs h t ih =>
   rw [map_cons,map_cons];refine .cons ?_ ih;unfold putAt;by_cases z:q.1=k
   .rw [if_pos z,if_pos (by rw [h.1,z])]; exact ⟨h.1,h.2.1,h.2.2.1,rv⟩
   .rw [if_neg z,if_neg (λy=>z (by rw [h.1] at y; exact Sum.inr.inj y))]; exact h
 .exact Paired.snoc r ⟨rfl,rfl,hb,rv⟩
section
variable{P:Program}{w:World}{H:Hp}{h:Heap}{a:Addr}{o:Obj}{kvs:List (KX×V×V)}
theorem sJ(ok:pT P w H h){ks:N1}{b:Addr}(n:nX H ks b):(lG P w).is h ks b:=by
 obtain ⟨vs,e,r⟩:=n;obtain ⟨_,its,rv,⟨q,h1,h2,m,h3⟩,_⟩:=(show dJ P w H h b (.tup vs) from ok b _ e);have go:∀ {ks:N1} {vs:List V} {us:List Value},Paired (C4 H) ks vs->Vals vs us->gJ (bC P w) h ks us:=by
  intro ks vs us r
  induction r generalizing us with
  | nil=>intro rv; cases rv; exact .nil
  | @cons k v ks vs i _ ih =>
   intro rv
   cases rv with
   | @cons _ u _ us ru rt =>
    refine .cons ?_ (ih rt)
    cases k with
    | inl k =>
     have i:v=kV k:=i;subst i;exact uN ru
    | inr k =>
     obtain ⟨c,rfl,hc⟩:=i;have ru:u=.ref c:=ru;exact ⟨c,ru,DJ ok hc⟩
 exact ⟨q,its.toArray,m,h1,h2,h3,by simpa using go r rv⟩
theorem yW(x:C5 P w H o kvs)(ho:h.get? a=some o)(hp:∀ p∈kvs,p.1.isLeft=true):∃ vs,PL kvs vs/\h.DictOf (bC P w) a vs:=by
 obtain ⟨ex,es,ep,ed,hx⟩:=x;rcases hx with ⟨vs,r,h1,h2,h3⟩ | ⟨xs,r,h1,h2⟩
 .exact ⟨vs,r,o,es,ep,ho,ex,ed,h1,h2,h3⟩
 .cases r with
  | nil =>
   have e0:es.toList=[]:=h1;have e1:es=#[]:=by simpa using e0
   subst e1;exact ⟨[],.nil,o,#[],ep,ho,ex,ed,(λ_ he=>by simp at he),.nil,nodup_nil⟩
  | @cons p q ps qs hq t =>
   have:=hp p mem_cons_self;rw [hq.1] at this;cases this
theorem D6(ok:pT P w H h)(x:C5 P w H o kvs)(ho:h.get? a=some o)(hp:∀ p∈kvs,p.1.isLeft=false):∃ xs,PT H kvs xs/\h.DictOfH (lG P w) a xs:=by
 obtain ⟨ex,es,ep,ed,hx⟩:=x;rcases hx with ⟨vs,r,h1,h2,h3⟩ | ⟨xs,r,h1,h2⟩
 .cases r with
  | nil =>
   have e0:es.toList=[]:=List.eq_nil_of_length_eq_zero (by rw [h2.length]; rfl);exact ⟨[],.nil,o,es,ep,ho,ex,ed,e0,(λ_ he=>by simp at he),nodup_nil⟩
  | @cons p q ps qs hq t =>
   have:=hp p mem_cons_self;rw [hq.1] at this;cases this
 .refine ⟨xs,r,o,es,ep,ho,ex,ed,h1,?_,h2⟩;have go:∀ {kvs:List (KX×V×V)} {xs:List (N1×Addr×Value)},PT H kvs xs -> ∀ x∈xs,(lG P w).is h x.1 x.2.1:=by
   intro kvs xs r
   induction r with
   | nil=>intro x hx; cases hx
   | cons hq _ ih =>
    intro x hx;rcases List.mem_cons.1 hx with e | hx
    .subst e; exact sJ ok hq.2.2.1
    .exact ih x hx
  exact go r
end
section
variable{X:Cx}{pins:List (Addr×Obj)}{σ:L2.St}{H:Hp}{s:Shared}{a:Addr}{y v z:V}{u r:Value}{A:Around}{E:Value->Shared->Prop}{o:Obj}{kvs:List (KX×V×V)}{k:KX}
theorem MQ(I:Inv X pins σ H s)(e:H a=some (.dX o kvs)):kvs.length<=sizeLine/\(a == sysModules)=false/\s.heap.get? a=some o/\C5 X.prog X.w H o kvs:=I.hok a _ e
theorem aCi{k:Key}(kd:sI kvs (.inl k)):∀ p∈kvs,p.1.isLeft=true:=kd
theorem aCj{k:N1}(kd:sI kvs (.inr k)):∀ p∈kvs,p.1.isLeft=false:=kd
theorem O6{Q:Value->Shared->Prop}(hu:A.units+2<cLine)(I:Inv X pins σ H s)(e:H a=some (.dX o kvs))(hk:KAt H k y)(kd:sI kvs k)(hv:gO kvs k=some v)(ry:RelV y u)(h:∀ w' s',Inv X pins σ H s'->RelV v w'->Q w' s') :
  wpAny (model X.prog X.w) A (getItem (.ref a) u) Q E s:=by
 obtain ⟨z,hs,ho,hx⟩:=MQ I e
 cases k with
 | inl k =>
  have hk:y=kV k:=hk;subst hk;obtain ⟨vs,rel,dd⟩:=yW hx ho (aCi kd);obtain ⟨w',hw,II⟩:=nW.some_of (v:=v) (o:=valueAt vs k) (by rw [<- hv]; exact PL.val rel k);exact wpAny_getItem_of (uN ry) dd.mapOf hw (h w' _ (I.tok _) II)
 | inr k =>
  obtain ⟨b,rfl,hb⟩:=hk;obtain rfl:u=Value.ref b:=ry;obtain ⟨xs,rel,dd⟩:=D6 I.hok hx ho (aCj kd);obtain ⟨w',hw,II⟩:=nW.some_of (v:=v) (o:=(atKey xs k).map (·.2)) (by rw [<- hv]; exact PT.val rel k);obtain ⟨p,hp,hp2⟩:=Option.map_eq_some_iff.mp hw;refine wpAny_getItem_heap (nest_room hu) (sJ I.hok hb) dd hp ?_;rw [hp2];exact h w' _ (I.tok _) II
theorem aLB{Q:Value->Shared->Prop}(neg:Bool)(hu:A.units+2<cLine)(I:Inv X pins σ H s)(e:H a=some (.dX o kvs))(hk:KAt H k y)(kd:sI kvs k)(ry:RelV y u)(h:∀ s',Inv X pins σ H s'->Q (.bool (if neg then !(gO kvs k).isSome else (gO kvs k).isSome)) s') :
  wpAny (model X.prog X.w) A (compareOp (if neg then .NotIn else .In) u (.ref a)) Q E s:=by
 obtain ⟨z,hs,ho,hx⟩:=MQ I e
 cases k with
 | inl k =>
  have hk:y=kV k:=hk;subst hk;obtain ⟨vs,rel,dd⟩:=yW hx ho (aCi kd);have ev:(gO kvs (.inl k)).isSome=(valueAt vs k).isSome:=(PL.val rel k).pA;rw [ev] at h
  cases neg with
  | false=>exact wpAny_in_of (uN ry) hs dd.mapOf (h _ (I.tok _))
  | true=>exact wpAny_notIn_of (uN ry) hs dd.mapOf (h _ (I.tok _))
 | inr k =>
  obtain ⟨b,rfl,hb⟩:=hk;obtain rfl:u=Value.ref b:=ry;obtain ⟨xs,rel,dd⟩:=D6 I.hok hx ho (aCj kd);have ev:=(PT.val rel k).pA;rw [Option.isSome_map] at ev;rw [ev] at h
  cases neg with
  | false=>exact wpAny_in_heap (nest_room hu) (sJ I.hok hb) hs dd (h _ (I.tok _))
  | true=>exact wpAny_notIn_heap (nest_room hu) (sJ I.hok hb) hs dd (h _ (I.tok _))
theorem V7(I:Inv X pins σ H s)(e:H a=some (.dX o kvs)):s.TypeIs (.ref a) "dict" := by obtain ⟨z,hs,ho,hx⟩:=MQ I e;exact ⟨o,ho,hx.1.1⟩
theorem V8{P:Program}{w:World}{h':Heap}{H':Hp}{kvs:List (KX×V×V)}{vs:List (Key×Value)}(rel:PL kvs vs)(dd:h'.DictOf (bC P w) a vs):∃ o',h'.get? a=some o'/\C5 P w H' o' kvs:=by obtain ⟨o',es,ep,h1,h2,h3,h4,h5,h6⟩:=dd;exact ⟨o',h1,h2,es,ep,h3,.inl ⟨vs,rel,h4,h5,h6⟩⟩
theorem Z1{P:Program}{w:World}{h':Heap}{H':Hp}{kvs:List (KX×V×V)}{xs:List (N1×Addr×Value)}(rel:PT H' kvs xs)(dd:h'.DictOfH (lG P w) a xs):∃ o',h'.get? a=some o'/\C5 P w H' o' kvs:=by obtain ⟨o',es,ep,h1,h2,h3,h4,_,h6⟩:=dd;exact ⟨o',h1,h2,es,ep,h3,.inr ⟨xs,rel,h4,h6⟩⟩
theorem Z2{H:Hp}{a:Addr}{o:Obj}{kvs:List (KX×V×V)}{u:HO}(e:H a=some (.dX o kvs)):∀ b ys,H b=some (.tup ys)->upd H a u b=some (.tup ys):=λb ys eb=>by rw [bA (aAM eb e (λz=>nomatch z))];exact eb
theorem O7{Q:Unit->Shared->Prop}(hu:A.units+2<cLine)(I:Inv X pins σ H s)(e:H a=some (.dX o kvs))(hk:KAt H k y)(kd:sI kvs k)(hl:kvs.length<sizeLine)(ry:RelV y u)(rv:RelV v r)(h:∀ o' s',Inv X pins σ (upd H a (.dX o' (fB kvs k y v))) s'->Q () s') :
  wpAny (model X.prog X.w) A (setItem (.ref a) u r) Q E s:=by
 obtain ⟨z,hs,ho,hx⟩:=MQ I e;have hz:(fB kvs k y v).length<=sizeLine:=by have:=GU kvs k y v; omega
 have mu:Mut (H a):=by rw [e]; exact True.intro
 cases k with
 | inl k =>
  have hk:y=kV k:=hk;subst hk;obtain ⟨vs,rel,dd⟩:=yW hx ho (aCi kd);have hv:vs.length<=sizeLine:=by rw [<- Paired.length rel]; exact z
  refine wpAny_setItem_pairs (hsz:=hv) (uN ry) dd λh' dd' sb=>?_;obtain ⟨o',g1,g2⟩:=V8 (H':=upd H a (.dX o (fB kvs (.inl k) (kV k) v))) (PL.put rel k rv) dd';exact h o' _ (vV I mu sb ⟨o',g1⟩ ⟨hz,hs,g1,g2.stay λb ys eb=>by
   by_cases hb:b=a
   .subst hb; rw [aV] at eb; cases eb
   .rw [bA hb] at eb ⊢; exact eb⟩)
 | inr k =>
  obtain ⟨b,rfl,hb⟩:=hk;obtain rfl:u=Value.ref b:=ry;obtain ⟨xs,rel,dd⟩:=D6 I.hok hx ho (aCj kd);have hv:xs.length<=sizeLine:=by rw [<- Paired.length rel]; exact z
  refine wpAny_setItem_heap (hsz:=hv) (nest_room hu) (sJ I.hok hb) dd λh' dd' sb=>?_;obtain ⟨o',g1,g2⟩:=Z1 (PT.put rel k hb rv) dd';exact h o' _ (vV I mu sb ⟨o',g1⟩ ⟨hz,hs,g1,g2.stay (Z2 e)⟩)
end
end L8
end
section
namespace L8
open PySem PySem.Spec PyProof.Rows L2 L7
noncomputable def aAa(td ty:TE):TE:=λσ H Q=>td σ H λx H1=>ty σ H1 λy H2=>∃ a o kvs k v,x=.ref a/\H2 a=some (.dX o kvs)/\KAt H2 k y/\sI kvs k/\gO kvs k=some v/\Q v H2
noncomputable def aCk(neg:Bool)(ty td:TE):TE:=λσ H Q=>ty σ H λy H1=>td σ H1 λx H2=>∃ a o kvs k,x=.ref a/\H2 a=some (.dX o kvs)/\KAt H2 k y/\sI kvs k/\Q (.bl (if neg then !(gO kvs k).isSome else (gO kvs k).isSome)) H2
noncomputable def aF6(td ty tv:TE):TS:=λD σ H=>tv σ H λv H1=>td σ H1 λx H2=>ty σ H2 λy H3=>∃ a o kvs k,x=.ref a/\H3 a=some (.dX o kvs)/\KAt H3 k y/\sI kvs k/\kvs.length<sizeLine /\ ∀ o',D.nx σ (upd H3 a (.dX o' (fB kvs k y v)))
noncomputable def aF7:TE:=λ_ H Q=>∀ p o,H p=none->Q (.ref p) (upd H p (.dX o []))
section
variable{X:Cx}{o i e f value:Expr}{pos pos':Pos}{td ty tv tz:TE}
theorem MR(hu:X.A.units+2<cLine)(ho:PE X o td)(hi:PE X i ty)(hs:IQ i):PE X (.Subscript o i pos) (aAa td ty):=by intro pins s σ H Q I h;refine LR F.slot_dict_getitem.lookup hs (eS (ho pins s σ H _ I h) λu s1 ⟨x,H1,I1,rx,q1⟩=>?_);refine eS (hi pins s1 σ H1 _ I1 q1) λiv s2 aF8=>?_;obtain ⟨y,H2,I2,ry,a,ob,kvs,k,v,ex,e,hk,kd,hv,q2⟩:=aF8;subst ex;obtain rfl:u=Value.ref a:=rx;exact ⟨V7 I2 e,O6 hu I2 e hk kd hv ry λw' s3 I3 r3=>⟨v,H2,I3,r3,q2⟩⟩
theorem O8(hu:X.A.units+2<cLine)(hi:PE X i ty)(ho:PE X o td):PC X .NotIn i o (aCk true ty td):=by intro pins s σ H Q I h;refine eS (hi pins s σ H _ I h) λiv s1 aF9=>?_;obtain ⟨y,H1,I1,ry,q1⟩:=aF9;refine eS (ho pins s1 σ H1 _ I1 q1) λu s2 aFa=>?_;obtain ⟨x,H2,I2,rx,a,ob,kvs,k,ex,e,hk,kd,q2⟩:=aFa;subst ex;obtain rfl:u=Value.ref a:=rx;exact aLB true hu I2 e hk kd ry λs3 I3=>⟨.bl _,H2,I3,rfl,q2⟩
theorem Z3(hu:X.A.units+2<cLine)(ho:PE X o td)(hi:PE X i ty)(hv:PE X value tv)(hs:swapsWith value (some (.Subscript o i pos')) pos.line X.env=pure false):PS X (.Assign [.Subscript o i pos'] value pos) (aF6 td ty tv):=by intro pins s σ H D I h;refine wpAny_Assign_Subscript (eS (hv pins s σ H _ I h) λr s1 ⟨v,H1,I1,rv,q1⟩=>?_) hs;refine eS (ho pins s1 σ H1 _ I1 q1) λu s2 aFb=>?_;obtain ⟨x,H2,I2,rx,q2⟩:=aFb;refine eS (hi pins s2 σ H2 _ I2 q2) λiv s3 aFc=>?_;obtain ⟨y,H3,I3,ry,a,ob,kvs,k,ex,e,hk,kd,hl,q3⟩:=aFc;subst ex;obtain rfl:u=Value.ref a:=rx;exact O7 hu I3 e hk kd hl ry rv λo' s4 I4=>⟨σ,_,I4,q3 o'⟩
theorem V9{P:Program}{w:World}{H:Hp}(h:Heap)(hb:sysModules<h.objs.size):dJ P w H (h.push { cls:=.type "dict",data:=.dict #[] }) h.objs.size (.dX { cls:=.type "dict",data:=.dict #[] } []) :=
 ⟨Nat.zero_le _,beq_eq_false_iff_ne.mpr (Ne.symm (Nat.ne_of_lt hb)),Heap.get?_push_size _ rfl,⟨rfl,rfl,rfl⟩,#[],0,rfl,.inl ⟨[],.nil,(λ_ he=>by simp at he),.nil,nodup_nil⟩⟩
theorem Z4:PE X (.Dict [] [] pos) aF7:=λpins s σ H Q I h =>
 wpAny_Dict_empty ⟨.ref s.heap.objs.size,_,I.laid (t':=s.toks) (λ_ _ q=>Heap.get?_push_of_some _ q) (Nat.le_refl _) (V9 s.heap I.big),rfl,h _ _ (I.hok.fresh (Nat.le_refl _))⟩
end
end L8
end
section
namespace L8
open PySem PySem.Spec PyProof.Rows L2 L3 L4
section
variable{K:PySem.W.Frag}{S:Addr->Prop}{H:Hp}
theorem Z5{d:D}{v:V}{k:Key}(h:Dn K S H d v)(e:wL d=some k):v=kV k:=by cases d<;>simp only [wL] at e<;>cases e<;>simp only [Dn] at h<;>exact h
theorem GV:∀ {ds:List D} {xs:List V} {ks:List Key},aP K S H ds xs->AE ds=some ks->xs=ks.map kV
 | [],xs,ks,h,e=>by simp only [aP] at h; cases e; exact h
 | d::ds,xs,ks,h,e=>by obtain ⟨v,r,rfl,h1,h2⟩:=h.bV;obtain ⟨k,ek,e⟩:=bnd e;obtain ⟨ks',e2,rfl⟩:=uR e;rw [Z5 h1 ek,GV h2 e2];rfl
theorem WB{d:D}{v:V}{k:Sum Key (List Key)}(h:Dn K S H d v)(e:Q2 d=some k):C4 H k v:=by
 cases d with
 | tup ds =>
  obtain ⟨ks,e2,rfl⟩:=uR e;simp only [Dn] at h;obtain ⟨a,xs,rfl,ha,dn⟩:=h;rw [GV dn e2] at ha;exact ⟨a,rfl,ha⟩
 | int i=>cases e; simp only [Dn] at h; exact h
 | str i=>cases e; simp only [Dn] at h; exact h
 | _=>cases e
theorem BR:∀ {ds:List D} {xs:List V} {ks:N1},aP K S H ds xs->wR ds=some ks->Paired (C4 H) ks xs
 | [],xs,ks,h,e=>by simp only [aP] at h; cases e; subst h; exact .nil
 | d::ds,xs,ks,h,e=>by obtain ⟨v,r,rfl,h1,h2⟩:=h.bV;obtain ⟨k,ek,e⟩:=bnd e;obtain ⟨ks',e2,rfl⟩:=uR e;exact .cons (WB h1 ek) (BR h2 e2)
theorem vY{d:D}{v:V}{k:KX}(h:Dn K S H d v)(e:sS d=some k):KAt H k v:=by
 cases d with
 | tup ds =>
  obtain ⟨ks,e2,rfl⟩:=uR e;simp only [Dn] at h;obtain ⟨a,xs,rfl,ha,dn⟩:=h;exact ⟨a,rfl,xs,ha,BR dn e2⟩
 | int i=>cases e; simp only [Dn] at h; exact h
 | str i=>cases e; simp only [Dn] at h; exact h
 | _=>cases e
theorem yX{k:KX}:∀ {kvs:List (KX×V×V)} {ds:List D},aP K S H ds (kvs.map (·.2.2))->(∀ d,cP (kvs.map (·.1)) ds k=some d -> ∃ v,gO kvs k=some v/\Dn K S H d v)/\(cP (kvs.map (·.1)) ds k=none->gO kvs k=none)
 | [],ds,h=>⟨λd e=>by simp [cP] at e,λ_=>rfl⟩
 | p::kvs,ds,h=>by
  cases ds with
  | nil=>exact absurd h.len (by simp)
  | cons d0 ds =>
   obtain ⟨v,r,e1,h1,h2⟩:=h.bV;rw [map_cons] at e1;cases e1;have ih:=yX (k:=k) (kvs:=kvs) (ds:=ds) h2;by_cases e:p.1=k
   .have a:cP ((p::kvs).map (·.1)) (d0::ds) k=some d0:=by simp [cP,e]
    have b:gO (p::kvs) k=some p.2.2:=by simp [gO,e]
    rw [a,b];exact ⟨λd ed=>by cases ed; exact ⟨_,rfl,h1⟩,λz=>nomatch z⟩
   .have a:cP ((p::kvs).map (·.1)) (d0::ds) k=cP (kvs.map (·.1)) ds k:=by simp [cP,e]
    have b:gO (p::kvs) k=gO kvs k:=by simp [gO,e]
    rw [a,b];exact ih
theorem D7{k:KX}{kvs:List (KX×V×V)}(h:kindB (kvs.map (·.1)) k=true):sI kvs k:=λp hp=>by unfold kindB at h;rw [all_eq_true] at h;simpa using h p.1 (mem_map_of_mem hp)
theorem aFd{k:KX}{y v:V}{d:D}(dv:Dn K S H d v):∀ {kvs:List (KX×V×V)} {ds:List D},aP K S H ds (kvs.map (·.2.2)) ->
  (L8.fB kvs k y v).map (·.1)=(L4.fB (kvs.map (·.1)) ds k d).1/\aP K S H (L4.fB (kvs.map (·.1)) ds k d).2 ((L8.fB kvs k y v).map (·.2.2)):=by
 intro kvs ds h;have e:(kvs.map (·.1)).any (λq=>decide (q=k))=kvs.any (λp=>decide (p.1=k)):=by rw [List.any_map]; rfl
 unfold L8.fB L4.fB;rw [e];split
 .refine ⟨?_,?_⟩
  .simp only [map_map];refine map_congr_left λp _=>?_;show (if p.1=k then (p.1,p.2.1,v) else p).1=p.1;split<;>rfl
  .dsimp only;have go:∀ {kvs:List (KX×V×V)} {ds:List D},aP K S H ds (kvs.map (·.2.2))->aP K S H (((kvs.map (·.1)).zip ds).map λp=>if p.1=k then d else p.2) ((kvs.map λp=>if p.1=k then (p.1,p.2.1,v) else p).map (·.2.2)):=by
    intro kvs
    induction kvs with
    | nil=>intro ds h; cases ds with
     | nil=>exact aP.nil
     | cons d0 ds=>exact absurd h.len (by simp)
    | cons p kvs ih =>
     intro ds h
     cases ds with
     | nil=>exact absurd h.len (by simp)
     | cons d0 ds =>
      obtain ⟨u,r,e1,h1,h2⟩:=h.bV;rw [map_cons] at e1;cases e1;refine aP.cons ?_ (ih h2);by_cases z:p.1=k
      .simpa [z] using dv
      .simpa [z] using h1
   exact go h
 .refine ⟨by simp,?_⟩;rw [map_append];exact h.append (aP.one dv)
end
section
variable{X:Cx}
theorem aLC{o i:Expr}{pos:Pos}{fo fi:EF}(hu:X.A.units+2<cLine)(ho:dA X o fo)(hi:dA X i fi)(hs:IQ i:=by intro _ _; rfl):dA X (.Subscript o i pos) (aE aDO fo fi):=imp (MR hu ho hi hs) λσ H Q aFe=>by
 obtain ⟨S,ρ,Q3,fc,sl,⟨d,e,q⟩,k⟩:=aFe;obtain ⟨x,ex,e⟩:=bnd e;obtain ⟨y,ey,e⟩:=bnd e;refine ⟨S,ρ,λd=>d=x,fc,sl,⟨x,ex,rfl⟩,λv H1 d1 s1 W7 e1=>?_⟩;subst e1;refine ⟨S,ρ,λd=>d=y,cH fc s1,Sl.fits (.same s1) sl,⟨y,ey,rfl⟩,λu H2 d2 s2 LX e2=>?_⟩;subst e2;have W7:=Dn.fits (.same s2) _ _ W7
 cases d1 with
 | eD q0 ks ds =>
  obtain ⟨kk,ek,e⟩:=bnd e;simp only [Dn] at W7;obtain ⟨a,o,kvs,rfl,ha,sa,⟨rfl,_⟩,da⟩:=W7;by_cases hk:kindB (kvs.map (·.1)) kk=true
  .rw [if_pos hk] at e;obtain ⟨v3,ev,dv⟩:=(yX da).1 d e;exact ⟨a,o,kvs,kk,v3,rfl,ha,vY LX ek,D7 hk,ev,k v3 H2 d (s1.trans s2) dv q⟩
  .rw [if_neg hk] at e; cases e
 | _=>cases e
theorem WC{neg:Bool}{fo fi:EF}{σ:L2.St}{H:Hp}{Q:VK}(h:lift X.K (wE (aE (M1 neg) fi fo)) σ H Q):aCk neg (lift X.K (wE fi)) (lift X.K (wE fo)) σ H Q:=by
 obtain ⟨S,ρ,Q3,fc,sl,⟨d,e,q⟩,k⟩:=h;obtain ⟨x,ex,e⟩:=bnd e;obtain ⟨y,ey,e⟩:=bnd e;refine ⟨S,ρ,λd=>d=x,fc,sl,⟨x,ex,rfl⟩,λv H1 d1 s1 W7 e1=>?_⟩;subst e1;refine ⟨S,ρ,λd=>d=y,cH fc s1,Sl.fits (.same s1) sl,⟨y,ey,rfl⟩,λu H2 d2 s2 LX e2=>?_⟩;subst e2;have W7:=Dn.fits (.same s2) _ _ W7
 cases d2 with
 | eD q0 ks ds =>
  obtain ⟨kk,ek,e⟩:=bnd (o:=sS d1) e;simp only [Dn] at LX;obtain ⟨a,o,kvs,rfl,ha,sa,⟨rfl,_⟩,da⟩:=LX;by_cases hk:kindB (kvs.map (·.1)) kk=true
  .rw [if_pos hk] at e;cases e;have ev:(gO kvs kk).isSome=(cP (kvs.map (·.1)) ds kk).isSome:=by
    cases hl:cP (kvs.map (·.1)) ds kk with
    | none=>rw [(yX da).2 hl]; rfl
    | some d3=>obtain ⟨v3,e3,_⟩:=(yX da).1 d3 hl; rw [e3]; rfl
   refine ⟨a,o,kvs,kk,rfl,ha,vY W7 ek,D7 hk,?_⟩;rw [ev];exact k _ H2 _ (s1.trans s2) (by simp only [Dn]) q
  .rw [if_neg hk] at e; cases e
 | _=>cases e
section
variable{o i:Expr}{pos:Pos}{fo fi:EF}
theorem O9{neg:Bool}{σ:L2.St}{H:Hp}{Q:Bool->Hp->Prop}(h:liftT X.K (wT (tV (aE (M1 neg) fi fo))) σ H Q):tB (aCk neg (lift X.K (wE fi)) (lift X.K (wE fo))) σ H Q:=by
 obtain ⟨S,ρ,Q3,fc,sl,⟨b,e,q⟩,k⟩:=h;obtain ⟨d,e1,e2⟩:=bnd e;have eb:d=.bl b:=by
  obtain ⟨x,ex,e⟩:=bnd e1;obtain ⟨y,ey,e⟩:=bnd e
  cases y with
  | eD q0 ks ds =>
   obtain ⟨kk,ek,e⟩:=bnd (o:=sS x) e;by_cases hk:kindB ks kk=true
   .rw [if_pos hk] at e;cases e;cases e2;rfl
   .rw [if_neg hk] at e; cases e
  | _=>cases e
 subst eb;refine WC ⟨S,ρ,λd=>d=.bl b,fc,sl,⟨_,e1,rfl⟩,λv H1 d s1 dn e3=>?_⟩;subst e3;simp only [Dn] at dn;exact ⟨b,dn,k b H1 s1 q⟩
theorem aCl(hu:X.A.units+2<cLine)(hi:dA X i fi)(ho:dA X o fo)(hm:behindInMarks .NotIn o=false:=by with_unfolding_all rfl):BG X (.Compare i [.NotIn] [o] pos) (tV (aE (M1 true) fi fo)):=T9 (aBI (O8 hu hi ho) hm) λ_ _ _=>O9
end
end
section
variable{X:Cx}
theorem aFf{i:Nat}{x:Str}{pos pos' p:Pos}(hN:X.N.Nodup)(hi:X.N[i]? = some x:=by rfl)(hx:Loc X.env.scope x:=by first | exact .inl rfl | exact .inr rfl)(hs:swapsWith (.Dict [] [] p) (some (.Name x pos')) pos.line X.env=pure false:=by rfl)(hf:X.fn x=true\/X.env.scope.names.lookup x=some .local:=by first | exact .inl rfl | exact .inr rfl) :
  vW X (.Assign [.Name x pos'] (.Dict [] [] p) pos) (aAB i):=lI (qI hN hi hx Z4 hs hf) λB σ H ⟨H₀,S,w,ρ,G,E,hl,st,ht,ok⟩=>λp o hp =>
 ok.nx _ _ _ _ (by rw [length_set]; exact hl) (st.IS (d:=.eD u7 [] []) (by rw [hl]; exact jV hi) (aR hp) hp ⟨o,[],aV,⟨rfl,trivial⟩,aP.nil⟩) ht
theorem vZ{o:Option Sv}{p:(Nat->Obj->Prop)×List vJ×List D}(h:M4 o=some p):o=some (.ow (.eD p.1 p.2.1 p.2.2)):=by
 unfold M4 at h;split at h
 .cases h; rfl
 .cases h
theorem aFg{i:Nat}{x:Str}{e k:Expr}{f:XF}{fk:EF}{pos pos' p:Pos}(hu:X.A.units+2<cLine)(he:MA X e f)(hk:dA X k fk)
  (hN:X.N[i]? = some x:=by rfl) (hv:AZ X.env.scope x:=by first | exact Or.inl rfl | exact Or.inr (Or.inl rfl) | exact Or.inr (Or.inr rfl)) (hd:(x == ("__debug__" : Str))=false:=by decide) (hcd:(x == ("__classdict__" : Str))=false:=by decide)
  (hs:swapsWith e (some (.Subscript (.Name x p) k pos')) pos.line X.env=pure false:=by rfl) :
  vW X (.Assign [.Subscript (.Name x p) k pos'] e pos) (AG i f fk):=lI (Z3 hu (nZ hN hv hd hcd) hk he hs) λB σ H aFh=>by
 obtain ⟨H₀,S,w,ρ,G,E,hl,st,ht,ok⟩:=aFh;unfold wS AG at ht;cases h:((f ρ).bind λp=>(M4 p.1[i]?).bind λkd=>(fk (bU p.1)).bind λkv=>(sS kv).bind λkk =>
  if kindB kd.2.1 kk=true/\kd.2.2.length<pE then some (p.1.set i (.ow (.eD (adr kd.1) (L4.fB kd.2.1 kd.2.2 kk p.2).1 (L4.fB kd.2.1 kd.2.2 kk p.2).2))) else none) with
 | none=>rw [h] at ht; exact ht.elim
 | some ρ2 =>
  rw [h] at ht;obtain ⟨⟨ρ1,d1⟩,eq,h⟩:=bnd h;obtain ⟨⟨q0,ks,ds⟩,ed,h⟩:=bnd h;obtain ⟨kv,ek,h⟩:=bnd h;obtain ⟨kk,e2,h⟩:=bnd h;have o0:=vZ ed;by_cases hc:kindB ks kk=true/\ds.length<pE
  .rw [if_pos hc] at h;cases h;refine ⟨H₀,S,w,ρ,G,λρ' d=>ρ' = ρ1/\d=d1,hl,st,⟨_,eq,rfl,rfl⟩,λw' v H' ρ' d st' dv q'=>?_⟩;obtain ⟨rfl,rfl⟩:=q';obtain ⟨a0,_,_⟩:=st'.own i _ o0;refine ⟨_,a0,S,bU ρ',λy=>y=kv,st'.QQ,st'.all,⟨kv,ek,rfl⟩,λy H2 y' s2 dy ey=>?_⟩;subst ey;have st2:=st'.same s2;obtain ⟨a,b,c⟩:=st2.own i _ o0;obtain ⟨o,kvs,hp,⟨e5,hq⟩,dn⟩:=c;subst e5;have nS:¬ SO S w' ρ' (w' i):=λ⟨_,z⟩=>z i _ o0 rfl;refine ⟨w' i,o,kvs,kk,rfl,hp,vY dy e2,D7 hc.1,?_,λo'=>?_⟩
   .have:=dn.len;rw [length_map] at this;rw [sizeLine_eq,<- this];exact hc.2
   .have F:Fits X.K (SO S w' ρ') (SO S w' ρ') H2 (upd H2 (w' i) (.dX o' (L8.fB kvs kk y v))):=.upd (.inr (.inr ⟨_,_,hp⟩)) nS;obtain ⟨p1,p2⟩:=aFd (k:=kk) (y:=y) (Dn.fits (.same s2) _ _ dv) dn;exact ok.nx w' σ _ _ hl (st2.write (d':=.eD (adr q0) _ _) o0 ⟨o',_,aV,⟨p1,o,hq⟩,aP.fits F _ _ p2⟩) ht
  .rw [if_neg hc] at h; cases h
end
theorem PB{K:PySem.W.Frag}{H₀ H H':Hp}{S:Addr->Prop}{w:Nat->Addr}{σ:L2.St}{ρ:aS}{G:List (D×V)}{i:Nat}{d d':D}(h:ST K H₀ S w σ H ρ G)(e:ρ[i]? = some (Sv.ow d))(hb:∀ b u,b≠w i->H b=some u->H' b=some u)(q:yC K (SO S w ρ) H' d' (w i)):ST K H₀ S w σ H' (ρ.set i (.ow d')) G:=by
 obtain ⟨a0,b0,c0⟩:=h.own i d e;have wr:=c0.wr;have so:SO S w (ρ.set i (.ow d'))=SO S w ρ:=by
  funext a
  refine propext ⟨λ⟨s,n⟩=>⟨s,λj f hf=>?_⟩,λ⟨s,n⟩=>⟨s,λj f hf=>?_⟩⟩
  .by_cases hj:j=i
   .subst hj;exact n j d' (by rw [getElem?_set_self (List.getElem?_eq_some_iff.1 e).1])
   .exact n j f (by rw [getElem?_set_ne (Ne.symm hj)]; exact hf)
  .by_cases hj:j=i
   .subst hj; exact n j d e
   .exact n j f (by rw [getElem?_set_ne (Ne.symm hj)] at hf; exact hf)
 have ne:∀ a,SO S w ρ a->a≠w i:=λa z=>z.2 i d e;have nt:∀ a xs,H a=some (.tup xs)->a≠w i:=λa xs z y=>by subst y;rcases wr with ⟨_,k⟩ | ⟨_,k⟩ | ⟨_,_,k⟩<;>rw [z] at k<;>cases k
 have nf:∀ a o u,H a=some (.xX o u)->a≠w i:=λa o u z y=>by subst y;rcases wr with ⟨_,k⟩ | ⟨_,k⟩ | ⟨_,_,k⟩<;>rw [z] at k<;>cases k
 have F:Fits K (SO S w ρ) (SO S w ρ) H H':=⟨λa xs z=>hb _ _ (nt a xs z) z,λa ns z=>z.elim (λ⟨o,y⟩=>.inl ⟨o,hb _ _ (nf a o _ y) y⟩) .inr,λa xs z s=>⟨hb _ _ (ne a s) z,s⟩,λa xs z s=>⟨hb _ _ (ne a s) z,s⟩,λa o xs z s=>⟨hb _ _ (ne a s) z,s⟩⟩;refine ⟨h.fc,λb u z=>hb b u (bO z b0) (h.sm b u z),λj f hf=>?_,λj k d1 e1 h1 h2 z=>?_,λj f hf=>?_,λg hg=>by rw [so]; exact Dn.fits F _ _ (h.gh g hg)⟩
 .rw [so];rcases get_set hf with ⟨hj,z,_⟩ | ⟨hj,z⟩
  .cases z;subst hj;exact ⟨a0,b0,q⟩
  .obtain ⟨a,b,c⟩:=h.own j f z;exact ⟨a,b,c.fits F λob hob=>hb _ _ (λy=>hj (h.inj _ _ _ _ z e y)) hob⟩
 .have old:∀ {m:Nat} {y:D},(ρ.set i (.ow d'))[m]? = some (Sv.ow y) -> ∃ y2,ρ[m]? = some (Sv.ow y2):=λ{m y} hm=>by
   rcases get_set hm with ⟨hj,_,_⟩ | ⟨_,z⟩
   .subst hj; exact ⟨d,e⟩
   .exact ⟨_,z⟩
  obtain ⟨_,g1⟩:=old h1;obtain ⟨_,g2⟩:=old h2;exact h.inj j k _ _ g1 g2 z
 .rw [so];rcases get_set hf with ⟨_,z,_⟩ | ⟨hj,z⟩
  .cases z
  .obtain ⟨u,a,b⟩:=h.ro j f z;exact ⟨u,a,Dn.fits F f u b⟩
noncomputable def Z6(K:PySem.W.Frag)(R:XE):Sp:=λvs H Q _=>∃ (T:Addr->Prop) (ds:List D) (us:List V) (p:Addr) (o:Obj) (kvs:List (KX×V×V)) (xs:List D) (r:D×KD),vs=us++[.ref p]/\(∀ a,H a=none->T a)/\¬ T p/\H p=some (.dX o kvs)/\aP K T H ds us/\aP K T H xs (kvs.map (·.2.2))/\R ds (kvs.map (·.1),xs)=.ok r /\
 ∀ v H' o' kvs',(∀ b u,b≠p->H b=some u->H' b=some u)->H' p=some (.dX o' kvs')->kvs'.map (·.1)=r.2.1->aP K T H' r.2.2 (kvs'.map (·.2.2))->Dn K T H' r.1 v->Q v H'
noncomputable def tU(K:PySem.W.Frag)(t:AF)(j:Nat):TA:=λσ H Q=>∃ (S:Addr->Prop) (ρ:cJ) (ds:List D) (p:Addr),(∀ a,H a=none->S a)/\Sl K S H ρ σ/\t ρ=some ds/\σ[j]? = some (some (.ref p)) /\ ∀ vs H',Same H H'->aP K S H' ds vs->Q (vs++[.ref p]) H'
section
variable{X:Cx}
theorem BS{e:Expr}{es:List Expr}{f:EF}{g:AF}{j:Nat}(he:dA X e f)(hr:PA X es (tU X.K g j))(hs:starEach (e::es) X.env=(false,eval e X.env)::starEach es X.env:=by rfl):PA X (e::es) (tU X.K (aA f g) j) :=
 UA (iE he hr hs) λσ H Q aFi=>by obtain ⟨S,ρ,ds,p,fc,sl,et,ej,k⟩:=aFi;obtain ⟨d,ed,et⟩:=bnd et;obtain ⟨r,er,et⟩:=bnd et;cases et;refine ⟨S,ρ,λy=>y=d,fc,sl,⟨d,ed,rfl⟩,λv H1 d1 s1 W7 e1=>?_⟩;subst e1;refine ⟨S,ρ,r,p,cH fc s1,Sl.fits (.same s1) sl,er,ej,λvs H2 s2 LX=>?_⟩;exact k (v::vs) H2 (s1.trans s2) (aP.cons (Dn.fits (.same s2) _ _ W7) LX)
theorem aAb{j:Nat}{x:Str}{pos:Pos}(hN:X.N[j]? = some x:=by rfl)(hv:AZ X.env.scope x:=by first | exact Or.inl rfl | exact Or.inr (Or.inl rfl) | exact Or.inr (Or.inr rfl))(hd:(x == ("__debug__" : Str))=false:=by decide)(hcd:(x == ("__classdict__" : Str))=false:=by decide):PA X [.Name x pos] (tU X.K aC j) :=
 UA (iE (nZ hN hv hd hcd) qJ) λσ H Q aFj=>by obtain ⟨S,ρ,ds,p,fc,sl,et,ej,k⟩:=aFj;cases et;exact ⟨_,ej,k [] H (Same.refl H) aP.nil⟩
theorem BU{R:XE}{t:AF}{j:Nat}{H₀ H:Hp}{S:Addr->Prop}{w:Nat->Addr}{σ:L2.St}{ρ:aS}{G:List (D×V)}{r:(Nat->Obj->Prop)×D×KD}{Q:VK}(st:ST X.K H₀ S w σ H ρ G)(h:stepM R t j ρ=some r)
  (k:∀ v H',ST X.K H₀ S w σ H' (ρ.set j (.ow (.eD (adr r.1) r.2.2.1 r.2.2.2))) G->Dn X.K (SO S w ρ) H' r.2.1 v->Q v H'):aAP (Z6 X.K R) [] E0 (tU X.K t j) σ H Q:=by
 obtain ⟨ds,et,h⟩:=bnd h;obtain ⟨⟨q0,ks,xs⟩,eo,h⟩:=bnd h;have o0:=vZ eo
 cases hR:R ds (ks,xs) with
 | no=>dsimp only at h; rw [hR] at h; cases h
 | ex c=>dsimp only at h; rw [hR] at h; cases h
 | ok r0 =>
  dsimp only at h;rw [hR] at h;cases h;obtain ⟨a0,b0,_⟩:=st.own j _ o0;refine ⟨SO S w ρ,kC ρ,ds,w j,st.QR,st.rd,et,a0,λvs H1 s1 dn=>?_⟩;have st1:=st.same s1;obtain ⟨_,_,⟨o,kvs,hp,⟨e5,hq⟩,dk⟩⟩:=st1.own j _ o0;subst e5;show Z6 X.K R ((vs++[V.ref (w j)])++[]) H1 Q E0;rw [append_nil];refine ⟨SO S w ρ,ds,vs,w j,o,kvs,xs,r0,rfl,st1.QR,λz=>z.2 j _ o0 rfl,hp,dn,dk,hR,λv H' o' kvs' hb hp' ek dx dv=>?_⟩;exact k v H' (PB st1 o0 hb ⟨o',kvs',hp',⟨ek,o,hq⟩,dx⟩) dv
theorem aCm{k:Nat}{f:Addr}{fd:FuncData}{ps:List Str}{R:XE}{i j:Nat}{x y:Str}{p pos pos' cpos:Pos}{e:Expr}{es:List Expr}{t:AF}(F:aQ X.prog X.w X.K X.mg X.base dE k f fd ps (Z6 X.K R))(hr:kB k X.A)(hm:X.mg y=some (.ref f))(hk:PySem.W.keepIn X.K (.ref f)=true)(hb:Binds X.K fd ps [])(hij:i≠j)(hN:X.N.Nodup)
  (ha:PA X (e::es) (tU X.K t j)) (hi:X.N[i]? = some x:=by rfl) (hx:Loc X.env.scope x:=by first | exact .inl rfl | exact .inr rfl) (hg:Gl X y:=by rfl) (hdb:(y == ("__debug__" : Str))=false:=by decide) (he:starEach (e::es) X.env=(false,eval e X.env)::starEach es X.env:=by rfl) (hpl:(backTo cpos (starEach es X.env)).any (·.1)=false:=by rfl)
  (hs:swapsWith (.Call (.Name y p) (e::es) [] cpos) (some (.Name x pos')) pos.line X.env=pure false:=by rfl) (hf:X.fn x=true\/X.env.scope.names.lookup x=some .local:=by first | exact .inl rfl | exact .inr rfl) :
  vW X (.Assign [.Name x pos'] (.Call (.Name y p) (e::es) [] cpos) pos) (sU i R t j):=lI (qI hN hi hx (C9 F hr hg hm hk hb .nil TV ha hdb he hpl) hs hf) λB σ H aFk=>by
 obtain ⟨H₀,S,w,ρ,G,E,hl,st,ht,ok⟩:=aFk;unfold wS sU at ht
 cases h:stepM R t j ρ with
 | none=>rw [h] at ht; exact ht.elim
 | some r =>
  rw [h] at ht;refine BU st h λv H' st' dv=>ok.nx w _ H' _ (by rw [length_set]; exact hl) (st'.mN (by rw [hl]; exact jV hi) (Dn.fits (.mono λa z=>?_) _ _ dv)) ht;refine ⟨z.1,λm y hm=>?_⟩;rcases get_set hm with ⟨hj,_,hlt⟩ | ⟨_,q⟩
  .subst hj;obtain ⟨_,et,h⟩:=bnd h;obtain ⟨⟨q0,ks,xs⟩,eo,h⟩:=bnd h;exact z.2 m _ (vZ eo)
  .exact z.2 m y q
theorem aLD{k:Nat}{f:Addr}{fd:FuncData}{ps:List Str}{R:XE}{j:Nat}{y:Str}{p pos cpos:Pos}{e:Expr}{es:List Expr}{t:AF}(F:aQ X.prog X.w X.K X.mg X.base dE k f fd ps (Z6 X.K R))(hr:kB k X.A)(hm:X.mg y=some (.ref f))(hk:PySem.W.keepIn X.K (.ref f)=true)(hb:Binds X.K fd ps [])
  (ha:PA X (e::es) (tU X.K t j)) (hg:Gl X y:=by rfl) (hdb:(y == ("__debug__" : Str))=false:=by decide) (he:starEach (e::es) X.env=(false,eval e X.env)::starEach es X.env:=by rfl) (hpl:(backTo cpos (starEach es X.env)).any (·.1)=false:=by rfl)
  (hs:swapsWith (.Call (.Name y p) (e::es) [] cpos) none pos.line X.env=pure false:=by rfl) :
  vW X (.Expr (.Call (.Name y p) (e::es) [] cpos) pos) (XI R t j):=lI (LG (C9 F hr hg hm hk hb .nil TV ha hdb he hpl) hs) λB σ H aFl=>by
 obtain ⟨H₀,S,w,ρ,G,E,hl,st,ht,ok⟩:=aFl;unfold wS XI at ht
 cases h:stepM R t j ρ with
 | none=>rw [h] at ht; exact ht.elim
 | some r =>
  rw [h] at ht;exact BU st h λv H' st' _=>ok.nx w _ H' _ hl st' ht
noncomputable abbrev aAc(K:PySem.W.Frag)(j:Nat)(k:EF):TS:=aDh (aAa (SR j) (lift K (wE k)))
theorem aFm{st:Stmt}{b:SF}{j:Nat}{x:Str}{i:Expr}{k:EF}{p pos pos':Pos}(hu:X.A.units+2<cLine)(h:vW X st b)(hk:dA X i k)(hN:X.N[j]? = some x:=by rfl)(hv:AZ X.env.scope x:=by first | exact Or.inl rfl | exact Or.inr (Or.inl rfl) | exact Or.inr (Or.inr rfl))(hd:(x == ("__debug__" : Str))=false:=by decide)(hcd:(x == ("__classdict__" : Str))=false:=by decide)(hs:IQ i:=by intro _ _; rfl) :
  A2 X [st,.Return (some (.Subscript (.Name x p) i pos)) pos'] (SU (BE X.K (XC X) X.N.length (wS b)) (aAc X.K j k)):=x6 h (LF (SW (MR hu (nZ hN hv hd hcd) hk hs)))
theorem CA{st:Stmt}{rest:List Stmt}{f g:SF}{tl:TS}(h1:vW X st f)(h2:A2 X rest (SU (BE X.K (XC X) X.N.length (wS g)) tl)):A2 X (st::rest) (SU (BE X.K (XC X) X.N.length (wS (aJ f g))) tl):=FQ (x6 h1 h2) λB σ H aFo=>by
 obtain ⟨H₀,S,w,ρ,G,E,hl,st,ht,ok⟩:=aFo;unfold wS aJ at ht;refine ⟨H₀,S,w,ρ,G,{ E with nx:=wS g E },hl,st,?_,⟨λw' σ' H' ρ' hl' st' q=>⟨H₀,S,w',ρ',G,E,hl',st',q,ok⟩,ok.rt,ok.bk,ok.ct,ok.ex⟩⟩;unfold wS
 cases hf:f ρ with
 | nx ρ'=>rw [hf] at ht; exact ht
 | rt d=>rw [hf] at ht; exact ht
 | ex c=>rw [hf] at ht; exact ht
 | no=>rw [hf] at ht; exact ht
end
theorem aLE{P:Program}{w:World}{K:PySem.W.Frag}{mg:Str->Option Value}{base:Heap}{x qual:Str}{st:Stmt}{f:Addr}{fd:FuncData}{N ps:List Str}{k n np:Nat}{b:SF}{key:EF}(F:m9 K x qual st f fd)(S:bD N ps (aH st))(hn:N.length=n)(hp:ps.length=np)
  (hbody:∀ (cdv:Value) (A:Around) (outer:List Env) (s:Shared) (H:Hp) (E:XK),kB k (A.deeper (envOfC qual (aH st) s.heap.objs.size f cdv)) ->
   ∃ xc,A2 (DA dE P w K mg base N qual (aH st) f cdv A outer s H E).nox (aX st) (SU (BE K xc N.length (wS b)) (aAc K (np - 1) key))):aQ P w K mg base dE (k+1) f fd ps (Z6 K (runM n np b key)):=by
 subst hn hp;refine F.ok S (λvs H Q E h=>?_) λcdv A outer s H vs Q E hr h=>?_
 .obtain ⟨T,ds,us,p,o,kvs,xs,r,rfl,fc,np,hp,du,dx,hR,kk⟩:=h;have hb:=KI hR u7;unfold wU at hb;split at hb
  .rename_i hl;rw [List.length_append,<- du.len];exact hl
  .cases hb
 .obtain ⟨xc,hb⟩:=hbody cdv A outer s H E hr;obtain ⟨T,ds,us,p,o,kvs,xs,r,rfl,fc,nT,hp,du,dx,hR,kk⟩:=h;refine ⟨_,hb,?_⟩;have hq:=KI hR (λa _=>a=p);unfold wU at hq;split at hq
  case isFalse=>cases hq
  rename_i hl;have hlu:=du.len;have hpN:ps.length<=N.length:=by have:=congrArg List.length S.pre; rw [length_take] at this; omega
  have j0:ps.length - 1=ds.length:=by omega
  have sj:(startM N.length ds (λa _=>a=p) (kvs.map (·.1),xs))[ds.length]? = some (Sv.ow (.eD (λa _=>a=p) (kvs.map (·.1)) xs)):=by unfold startM;rw [getElem?_append_right (by simp)];simp
  have sv:∀ i,i<ds.length->(startM N.length ds (λa _=>a=p) (kvs.map (·.1),xs))[i]? = (ds[i]?).map Sv.ro:=λi hi=>by unfold startM;rw [getElem?_append_left (by simpa using hi),getElem?_map]
  have sn:∀ i,ds.length<i -> ∀ y,(startM N.length ds (λa _=>a=p) (kvs.map (·.1),xs))[i]? = some y->y=Sv.no:=λi hi y e=>by
   unfold startM at e;rw [getElem?_append_right (by simp; omega)] at e;obtain ⟨m,hm⟩:∃ m,i - (List.map Sv.ro ds).length=m+1:=⟨i - ds.length - 1,by simp; omega⟩;rw [hm,getElem?_cons_succ,getElem?_replicate] at e;split at e
   .cases e; rfl
   .cases e
  have ow:∀ (i:Nat) (d:D),(startM N.length ds (λa _=>a=p) (kvs.map (·.1),xs))[i]? = some (Sv.ow d)->i=ds.length/\d=.eD (λa _=>a=p) (kvs.map (·.1)) xs:=λi d e=>by
   rcases Nat.lt_trichotomy i ds.length with h | h | h
   .rw [sv i h] at e;obtain ⟨y,_,ey⟩:=Option.map_eq_some_iff.1 e;cases ey
   .subst h;rw [sj] at e;cases e;exact ⟨rfl,rfl⟩
   .cases sn i h _ e
  have so:∀ a,T a->SO (λa=>T a\/a=p) (λ_=>p) (startM N.length ds (λa _=>a=p) (kvs.map (·.1),xs)) a:=λa ta=>⟨.inl ta,λi d e z=>nT (by rw [<- show a=p from z]; exact ta)⟩;have σl:L2.start N (us++[.ref p])=us.map some++some (.ref p)::List.replicate (N.length - (us.length+1)) none:=by unfold L2.start;simp
  cases hbs:b (startM N.length ds (λa _=>a=p) (kvs.map (·.1),xs)) with
  | no=>rw [hbs] at hq; cases hq
  | rt d=>rw [hbs] at hq; cases hq
  | ex c=>rw [hbs] at hq; cases hq
  | nx ρ1 =>
   rw [hbs] at hq;dsimp only at hq;refine ⟨λc=>if c=p then none else H c,λa=>T a\/a=p,λ_=>p,startM N.length ds (λa _=>a=p) (kvs.map (·.1),xs),[],{ nx:=λρ=>ρ=ρ1,rt:=λ_=>False,bk:=λ_=>False,ct:=λ_=>False,ex:=λ_=>False },?_,?_,?_,?_⟩
   .rw [σl];simp;omega
   .refine ⟨λa e=>?_,λc u e=>?_,λi d e=>?_,λi i' d d' h1 h2 _=>(ow i d h1).1.trans (ow i' d' h2).1.symm,λi d e=>?_,λg hg=>by cases hg⟩
    .by_cases z:a=p
     .exact .inr z
     .exact .inl (fc a (by simpa [z] using e))
    .by_cases z:c=p
     .simp [z] at e
     .simpa [z] using e
    .obtain ⟨rfl,rfl⟩:=ow i d e;refine ⟨?_,by simp,o,kvs,hp,⟨rfl,rfl⟩,aP.fits (.mono so) _ _ dx⟩;rw [σl,getElem?_append_right (by simp; omega)];simp [hlu]
    .by_cases hi:i<ds.length
     .rw [sv i hi] at e;obtain ⟨y,e1,ey⟩:=Option.map_eq_some_iff.1 e;cases ey;obtain ⟨v,ev,dv⟩:=du.get e1;refine ⟨v,?_,Dn.fits (.mono so) _ _ dv⟩;have hv:i<us.length:=(List.getElem?_eq_some_iff.1 ev).1;rw [σl,getElem?_append_left (by simpa using hv),getElem?_map,ev];rfl
     .rcases Nat.lt_or_ge ds.length i with h | h
      .cases sn i h _ e
      .have:i=ds.length:=by omega
       subst this;rw [sj] at e;cases e
   .unfold wS;rw [hbs]
   .refine ⟨λw' σ' H' ρ' hl' st' e=>?_,λ_ _ _ _ _ z=>z.elim,λ_ _ _ _ _ _ z=>z.elim,λ_ _ _ _ _ _ z=>z.elim,λ_ _ _ z=>z.elim⟩;subst e;rw [j0] at hq ⊢;obtain ⟨⟨q',ks',xs'⟩,eo,hq⟩:=bnd hq;obtain ⟨kv,ek,hq⟩:=bnd hq;obtain ⟨kk',e2,hq⟩:=bnd hq;have o0:=vZ eo;obtain ⟨a0,b0,⟨o1,aQg,hp1,⟨e5,hq1⟩,dk1⟩⟩:=st'.own ds.length _ o0;split at hq
    case isFalse=>cases hq
    rename_i hc;obtain ⟨d,ed,hq9⟩:=uR hq;obtain ⟨_,hwp⟩:=hc.2 _ _ hq1;have hwp:w' ds.length=p:=hwp;refine ⟨_,a0,SO (λa=>T a\/a=p) w' ρ',kC ρ',λy=>y=kv,st'.QR,st'.rd,⟨kv,ek,rfl⟩,λy H2 y' s2 dy ey=>?_⟩;subst ey;have st2:=st'.same s2;obtain ⟨_,_,⟨o2,WD,hp2,⟨e6,_⟩,dk2⟩⟩:=st2.own ds.length _ o0;have toT:∀ a,SO (λa=>T a\/a=p) w' ρ' a->T a:=λa z=>z.1.elim id λy=>absurd (y.trans hwp.symm) (z.2 _ _ o0);have e7:WD.map (·.1)=ks':=e6;have hk2:kindB (WD.map (·.1)) kk' = true:=by rw [e7]; exact hc.1
    have ed2:cP (WD.map (·.1)) xs' kk' = some d:=by rw [e7]; exact ed
    obtain ⟨v3,ev,dv⟩:=(yX dk2).1 d ed2;refine ⟨w' ds.length,o2,WD,kk',v3,rfl,hp2,vY dy e2,D7 hk2,ev,?_⟩;have er:r=(d,ks',xs'):=hq9.symm;subst er;rw [hwp] at hp2;exact kk v3 H2 o2 WD (λc u ne hc=>s2 _ _ (st'.sm c u (by simpa [ne] using hc))) hp2 e7 (aP.fits (.mono toT) _ _ dk2) (Dn.fits (.mono toT) _ _ dv)
theorem aFp{P:Program}{w:World}{K:PySem.W.Frag}{mg:Str->Option Value}{base:Heap}{k:Nat}{f:Addr}{fd:FuncData}{ps:List Str}:aQ P w K mg base dE k f fd ps (Z6 K λ_ _=>.no) :=
 ⟨λ_ _ _ _ h=>(by obtain ⟨_,_,_,_,_,_,_,_,_,_,_,_,_,_,e,_⟩:=h; cases e),λ_ _ _ _ _ _ _ _ _ _ _ _ _ h=>(by obtain ⟨_,_,_,_,_,_,_,_,_,_,_,_,_,_,e,_⟩:=h; cases e)⟩
section
variable{X:Cx}
theorem aFq{a b:Expr}{t:AF}{es:List Expr}{kk:Nat}{tp p pos:Pos}(hm:X.mg "zip" = none)(ha:BH X [a,b] t)(hg:Gl X "zip" := by rfl)(hs:starEach [a,b] X.env=[(false,eval a X.env),(false,eval b X.env)]:=by rfl)(hs2:starEach [b] X.env=[(false,eval b X.env)]:=by rfl) :
  PI4 X (.Tuple es kk tp) (.Call (.Name "zip" p) [a,b] [] pos) (AH t):=cI (aJz hm ha hg hs hs2) λρ Q aFr=>by
 obtain ⟨ds,e,q⟩:=aFr;obtain ⟨as,ea,e⟩:=bnd e;refine ⟨as,ea,?_⟩;unfold aAC at e;split at e<;>first | (cases e; exact q) | cases e
end
end L8
end
section
namespace L8
open PySem PySem.Spec PyProof.Rows L2 L3 L4 L5
section
variable{X:Cx}
end
end L8
end
section
namespace L8
open PySem PySem.Spec PyProof.Rows L2 L3 L4
section
variable{X:Cx}
section
variable{a b:Expr}{fa fb:EF}{pos:Pos}
end
end
end L8
end
section
namespace L9
open PySem PySem.Spec PyProof.Rows L2 L3 L4 L5
section
variable{X:Cx}
end
section
variable{X:Cx}{pins:List (Addr×Obj)}{σ:L2.St}{H:Hp}{s:Shared}
end
section
variable{X:Cx}
end
end L9
end
section
namespace L9
open PySem PySem.SeqAt PySem.Spec PyProof.Rows L2 L3 L4 L5
section
variable{X:Cx}
section
variable{o e:Expr}{fo fe:EF}{apos cpos:Pos}
end
end
end L9
end
section
namespace L9
open PySem PySem.Spec PyProof.Rows L2 L3 L4 L5
section
variable{X:Cx}
end
end L9
end
section
namespace L9
open PySem PySem.SeqAt PySem.Spec PyProof.Rows L2 L3 L4 L5
section
variable{X:Cx}
end
end L9
end
section
namespace L4
open PySem PySem.Spec PyProof.Rows L2 L3 PySem.W Att
section
variable{X:Cx}{pins:List (Addr×Obj)}{σ:L2.St}{H:Hp}{s:Shared}
end
section
variable{X:Cx}{pins:List (Addr×Obj)}{σ:L2.St}{H:Hp}{s:Shared}{P:List (Addr×Obj)}{f:Value}{t:V->Hp->VK->Prop}{xs:List V}{us:List Value}{a kS:Addr}{e1:Nat}{E:Value->Shared->Prop}
 {W:Nat->List V->Hp->Prop}
end
structure aPM (X:Cx) (x:Str) (fs:List Str) (fr:List Nat) (sc:Scope):Prop where
 kind:sc.kind=.function
 co:sc.isCoroutine=false
 gen:sc.isGenerator=false
 par:sc.names.lookup x=some .local
 aLG:∀ y∈sc.names,y.2≠.cell
 free:∀ y∈sc.names,y.2=.free->X.env.kindOf y.1=some .cell\/X.env.kindOf y.1=some .free
 slot:∀ (k:Nat) (y:Str),fs[k]? = some y -> ∃ j,fr[k]? = some j/\X.N[j]? = some y/\(y,NameKind.free)∈sc.names/\sc.names.lookup y=some .free
 DN:fr.length=fs.length
section
variable{X:Cx}{pins:List (Addr×Obj)}{σ:L2.St}{H:Hp}{s:Shared}
noncomputable def WH(H:Hp)(c:Addr)(q:Str):Prop:=∃ oc vs t,H c=some (SK oc)/\oc.data=.fields vs/\vs[1]? = some (.str q t)
theorem WH.same{H':Hp}{c:Addr}{q:Str}(x:WH H c q)(sm:Same H H'):WH H' c q:=by obtain ⟨oc,vs,t,e,d,v⟩:=x;exact ⟨oc,vs,t,sm _ _ e,d,v⟩
end
section
variable{X:Cx}
end
section
variable{X:Cx}
end
theorem oF{K:PySem.W.Frag}{x:Str}(h:nsIn K mainGlobals x=some none):tabIn K x=none:=by unfold tabIn;rw [h]
theorem PD{K:PySem.W.Frag}{r1 r2 r3 r4 r5:Option (Addr×Addr)}(h1:tabIn K "going_of" = r1)(h2:tabIn K "count_of_chain" = r2)(h3:tabIn K "cut_paper" = r3)(h4:tabIn K "downsets" = r4)(h5:tabIn K "strictest_chains" = r5) :
  e8 K=([("going_of",r1),("count_of_chain",r2),("cut_paper",r3),("downsets",r4),("strictest_chains",r5)]:List (Str×Option (Addr×Addr))).filterMap λp=>p.2.map λt=>(p.1,t.1,t.2):=by
 subst h1 h2 h3 h4 h5;rfl
theorem tabs_ok{K:PySem.W.Frag}{q:Program}{L:List (Str×Addr×Addr)}(h:e8 K=L)(nd:(L.map (·.2.2)).Nodup)(rc:∀ t∈L,∃ e,(recsOf q).find? (λe=>e.name == t.1)=some e):TabsOk K q:=⟨by rw [h]; exact nd,by rw [h]; exact rc⟩
end L4
end
section
namespace L4
open PySem PySem.Spec PyProof.Rows L2 L3
section
variable{prog:Program}{w:World}{A:Around}{E:Value->Shared->Prop}{s:Shared}{z TI TO i1 i2:Addr}{f1 f2:List Addr}{n1 n2 k:Nat}{P1 P2:Nat->Value->Prop}{S1 S2:Nat->Heap->Prop}{a b:Value}
structure Zap (z TI TO i1 i2:Addr) (f1 f2:List Addr):Prop where
 zO:z≠TO
 zI:z≠TI
 OI:TO≠TI
 m1:i1∈f1
 m2:i2∈f2
 z1:z∉f1
 z2:z∉f2
 o1:TO∉f1
 o2:TO∉f2
 c1:i1∉f2
 c2:i2∉f1
 I1:TI≠i1
 I2:TI≠i2
theorem Zap.q2(p:Zap z TI TO i1 i2 f1 f2):z≠i2:=λe=>p.z2 (e▸p.m2)
theorem Zap.p1(p:Zap z TI TO i1 i2 f1 f2):TO≠i1:=λe=>p.o1 (e▸p.m1)
theorem Zap.p2(p:Zap z TI TO i1 i2 f1 f2):TO≠i2:=λe=>p.o2 (e▸p.m2)
end
section
variable{X:Cx}{es:List Expr}{kk:Nat}{tp:Pos}
end
section
variable{X:Cx}{es:List Expr}{kk:Nat}{tp:Pos}
end
end L4
end
section
namespace L4
open PySem PySem.SeqAt PySem.Spec PyProof.Rows L2 L3
section
variable{X:Cx}
section
variable{o e:Expr}{fo fe:EF}{apos cpos:Pos}
end
end
end L4
end
section
namespace L4
open PySem PySem.Spec PyProof.Rows L2 L3 PySem.W Att
section
variable{X:Cx}
end
section
variable{X:Cx}
end
section
variable{X:Cx}
end
section
variable{X:Cx}
end
section
variable{X:Cx}{σ:L2.St}
variable{pins:List (Addr×Obj)}{H:Hp}{xs:List V}{l q It S:Addr}{t:V->Hp->VK->Prop}{R:Result->Shared->Prop}
end
section
variable{X:Cx}
end
end L4
end
section
namespace L6
open PySem PySem.Spec PyProof.Rows
section
variable{prog:Program}{w:World}{A:Around}{E:Value->Shared->Prop}{s:Shared}
theorem PF{I S t:Addr}{items:Array Value}{ns:List Int}{led:Bool}{R:Result->Shared->Prop}(hh:A.handled=none)(hi:IntsAre items.toList ns)(hI:t≠I)(hSI:S≠I)(hSt:S≠t)(hb:ns.length+1<scanBound) :
  ∀ (r:List Int) (i:Nat) (s:Shared) (ms:List Int) (o:Obj),r=ns.drop i->i<=ns.length->s.heap.IsListIter I t i->s.heap.IsList t items->s.heap.get? S=some o->vH led o ms->ms.length<=i ->
   (∀ h' tk o',(∀ b u,b≠S->b≠I->s.heap.get? b=some u->h'.get? b=some u)->h'.get? S=some o'->vH led o' (gM ms r)->R (.ok (.ret .none)) { s with heap:=h',toks:=tk })->codeAny (model prog w) A (.builtin "set.update.loop" ⟨[.ref S,.ref I],[]⟩) R s:=by
 have W:=Walks.list (prog:=prog) (w:=w) (A:=A.in1) hh I t hI items;have hn:items.size=ns.length:=by have q:=IntsAre.length hi; simpa using q
 intro r
 induction r with
 | nil =>
  intro i s ms o er hil it tp ho hS _ fin;have e:i=items.size:=by have q:=congrArg List.length er;rw [length_drop,length_nil] at q;omega
  subst e;apply codeAny_builtin F.entry_set_update_loop;rw [Around.under_plainId F.plain_set_update_loop];unfold Builtin.«set.update.loop»;refine wpAny_bind (W.done s _ _ ⟨it,tp⟩ λh' tk keep=>wpAny_pure ?_);exact fin h' tk o (λb u h1 h2 e=>keep b u (by simpa using h2) e) (keep S o (by simpa using hSI) ho) hS
 | cons k r ih =>
  intro i s ms o er hil it tp ho hS hm fin;have hlt:i<ns.length:=by have q:=congrArg List.length er;rw [length_drop,length_cons] at q;omega
  have ek:ns[i]? = some k:=by
   have q:(ns.drop i)[0]? = some k:=by rw [<- er]; rfl
   rwa [List.getElem?_drop,Nat.add_zero] at q
  apply codeAny_builtin F.entry_set_update_loop;rw [Around.under_plainId F.plain_set_update_loop];unfold Builtin.«set.update.loop»;refine wpAny_bind (W.item i s _ _ (by omega) ⟨it,tp⟩ λv h1 tk hv st keep=>?_);obtain ⟨t1,rfl⟩:=IntsAre.int_at hi i v (by rw [Array.getElem?_toList]; exact hv);have e2:ns.getD i 0=k:=by rw [getD_eq_getElem?_getD,ek]; rfl
  rw [e2];refine wpAny_bind (wpAny_holding (add_int (s:={ s with heap:=h1,toks:=tk }) (keep S o (by simpa using hSI) ho) hS (by omega) λh2 o2 _ sb g2 i2=>wpAny_pure ⟨plainId_quiet F.plain_set_update_loop _,?_⟩));have it2:h2.IsListIter I t (i+1):=st.1.at λo e=>by rw [sb.2 I (Ne.symm hSI)]; exact e
  have tp2:h2.IsList t items:=st.2.at λo e=>by rw [sb.2 t (Ne.symm hSt)]; exact e
  refine ih (i+1) { s with heap:=h2,toks:=tk+1 } _ o2 ?_ (by omega) it2 tp2 g2 i2 (Nat.le_trans (GR ms k) (by omega)) λh3 tk3 o3 k3 g3 i3=>fin h3 tk3 o3 (λb u n1 n2 e=>k3 b u n1 n2 ?_) g3 i3
  .have q:=congrArg List.tail er;rw [List.tail_drop] at q;exact q
  .show h2.get? b=some u;rw [sb.2 b n1];exact keep b u (by simpa using n2) e
theorem PH{S t:Addr}{items:Array Value}{ns:List Int}{led:Bool}(hi:IntsAre items.toList ns)(hSt:S≠t)(hb:ns.length+1<scanBound) :
  MeetsIn prog w (Builtin.«set.__init__» ⟨[.ref S,.ref t],[]⟩) (λA R s=>A.handled=none/\s.heap.IsList t items/\s.heap.get? S=some (jX led) /\
   ∀ h' tk o',(∀ b u,b≠S->b<s.heap.objs.size->s.heap.get? b=some u->h'.get? b=some u)->h'.get? S=some o'->vH led o' (gM [] ns)->R (.ok (.ret .none)) { s with heap:=h',toks:=tk }):=by
 refine .of_wp λA R s h=>?_;obtain ⟨hh,tp,hS,h⟩:=h;have T1:s.TypeIs (.ref S) "set" := ⟨_,hS,rfl⟩;have T2:=tp.typeIs;have s1:=F.sub_list_set;have s2:=F.sub_list_frozenset;obtain ⟨ot,hot,hct,nt,hdt⟩:=id tp;unfold Builtin.«set.__init__»;unfold noKeywords Builtin.Frozenset.updateFrom;generalize hP:pyIter=P
 wp_walk
 subst hP;have lS:S<s.heap.objs.size:=Heap.lt_size hS;have lt:t<s.heap.objs.size:=Heap.lt_size hot;refine wpAny_pyIter_list tp (wpAny_bind (wpAny_runValue ?_));refine PF (A:=A.in1) (t:=t) (S:=S) hh hi (Nat.ne_of_lt lt) (Nat.ne_of_lt lS) hSt hb ns 0 _ [] (jX led) rfl (Nat.zero_le _) ⟨_,Heap.get?_push_size _ rfl,rfl,rfl⟩ (tp.push _) (Heap.get?_push_of_some _ hS) (O5 led) (Nat.le_refl _) λh' tk o' keep g i=>?_;exact wpAny_pure (wpAny_pure ⟨_,rfl,h h' tk o' (λb u n1 l e=>keep b u n1 (Nat.ne_of_lt l) (Heap.get?_push_of_some _ e)) g i⟩)
theorem PJ{t:Addr}{items:Array Value}{ns:List Int}{Q:Value->Shared->Prop}(hh:A.handled=none)(hi:IntsAre items.toList ns)(tp:s.heap.IsList t items)(hb:ns.length+1<scanBound)
  (h:∀ h' tk o',(∀ b u,s.heap.get? b=some u->h'.get? b=some u)->h'.get? s.heap.objs.size=some o'->vH (lP w) o' (gM [] ns)->Q (.ref s.heap.objs.size) { s with heap:=h',toks:=tk }) :
  wpAny (model prog w) A (call (.type "set") [.ref t]) Q E s:=by
 obtain ⟨c,tl,m1⟩:=F.called_set.mro;have m2:=F.called_set.made;have m3:=F.called_set.sub;have m4:=F.called_set.notType;have m5:=F.called_set.canCreate;have m6:=F.typeCall_set_1 (.ref t);obtain ⟨ot,hot,_⟩:=id tp;have lt:t<s.heap.objs.size:=Heap.lt_size hot;refine wpAny_call (codeAny_of_tree (wpAny_pure ⟨Code.quiet_builtin _ (by decide +kernel),codeAny_builtin F.entry_type_call ?_⟩));rw [Around.under_plain (weight_type_call_type ..) (units_type_call_type ..)]
 wp_walk
 have c1:codeAny (model prog w) A.in1 (.call (.builtin "set.__new__") ⟨[.type "set",.ref t],[]⟩) (λr s1=>r=.ok (.ret (.ref s.heap.objs.size))/\s1={ s with heap:=s.heap.push (jX (lP w)) }) s :=
  codeAny_call_builtin F.plain_set_new F.entry_set_new (wpAny_of_eq (F.newCall_set_1 _) (ZZ (.ref t) A.in1 (λr s1=>r=.ok (.ret (.ref s.heap.objs.size))/\s1={ s with heap:=s.heap.push (jX (lP w)) }) s ⟨rfl,rfl⟩))
 refine codeAny_mono c1 λr s1 hr=>?_;obtain ⟨rfl,rfl⟩:=hr;dsimp only;have g1:(s.heap.push (jX (lP w))).get? s.heap.objs.size=some (jX (lP w)):=Heap.get?_push_size _ rfl;have T1:Shared.TypeIs { s with heap:=s.heap.push (jX (lP w)) } (.ref s.heap.objs.size) "set" := ⟨_,g1,rfl⟩;have m7:=F.called_set.init.lookup;have m8:=F.called_set.init.bind (.ref s.heap.objs.size)
 wp_walk
 have c2:codeAny (model prog w) A.in1 (.call (.builtin "set.__init__") ⟨[.ref s.heap.objs.size,.ref t],[]⟩) (λr s2=>∃ h' tk o',r=.ok (.ret .none)/\s2={ s with heap:=h',toks:=tk } /\
   (∀ b u,s.heap.get? b=some u->h'.get? b=some u)/\h'.get? s.heap.objs.size=some o'/\vH (lP w) o' (gM [] ns)) { s with heap:=s.heap.push (jX (lP w)) } :=
  codeAny_call_builtin F.called_set.init.plain F.entry_set_init (check_set_init_1 T1 (PH (led:=lP w) hi (Nat.ne_of_gt lt) hb A.in1 (λr s2=>∃ h' tk o',r=.ok (.ret .none)/\s2={ s with heap:=h',toks:=tk } /\
   (∀ b u,s.heap.get? b=some u->h'.get? b=some u)/\h'.get? s.heap.objs.size=some o'/\vH (lP w) o' (gM [] ns)) { s with heap:=s.heap.push (jX (lP w)) } ⟨hh,tp.push _,g1,λh' tk o' keep g i =>
    ⟨h',tk,o',rfl,rfl,λb u e=>keep b u (Nat.ne_of_lt (Heap.lt_size e)) (by rw [Heap.size_push]; exact Nat.lt_succ_of_lt (Heap.lt_size e)) (Heap.get?_push_of_some _ e),g,i⟩⟩))
 refine codeAny_mono c2 λr s2 hr=>?_;obtain ⟨h',tk,o',rfl,rfl,keep,g,i⟩:=hr;refine wpAny_pure ?_;dsimp only;rw [if_neg (by decide)];exact wpAny_pure (h h' tk o' keep g i)
end
section
open L2 L3 L4
variable{X:Cx}
noncomputable def TH(w:World)(K:PySem.W.Frag):List V->Hp->VK->Prop:=λxs H Q=>∃ (a:Addr) (ns:List Int),xs=[.ref a]/\eO K H a (ns.map V.int)/\ns.length<64 /\ ∀ p,H p=none->Q (.ref p) (upd H p (aCf w p (gM [] ns)))
theorem JS(hc:X.calm=true):fP X (.type "set") (TH X.w X.K):=by intro pins s σ H xs us Q I r h;obtain ⟨a,ns,rfl,ha,h64,q⟩:=h;obtain ⟨u,rfl,ru⟩:=vals1 r;cases ru;obtain ⟨its,rv,p,hz⟩:=I.list ha;have hi:=intsAre_of rv;refine PJ (items:=its.toArray) (ns:=ns) (I.ok.hd hc) (by simpa using hi) p.isList (by unfold scanBound; omega) λh' tk o' keep g i=>?_;refine ⟨.ref s.heap.objs.size,_,I.laid (t':=tk) (o:=aCf X.w s.heap.objs.size (gM [] ns)) keep (Nat.le_refl _) ⟨⟨o',g,i⟩,⟨o',g⟩,λh1 h2 z k=>?_⟩,rfl,q _ (I.hok.fresh (Nat.le_refl _))⟩;obtain ⟨o2,e2,i2⟩:=z;exact ⟨o2,k o2 e2,i2⟩
noncomputable def aFs(w:World):List V->Hp->VK->Prop:=λxs H Q=>∃ (a:Addr) (ns:List Int),xs=[.ref a]/\H a=some (aCf w a ns)/\ns.length<64/\Q (.int ns.length) H
theorem PK:fP X (.builtin "len") (aFs X.w):=by
 intro pins s σ H xs us Q I r h;obtain ⟨a,ns,rfl,ha,h64,q⟩:=h;obtain ⟨u,rfl,ru⟩:=vals1 r;cases ru;obtain ⟨⟨o,ho,es,ep,t,hex,hd,_,hp,ht,hsz⟩,_⟩:=I.hok a _ ha;have el:es.size=ns.length:=by have:=hp.length_eq; simpa using this
 exact call_len_set ho hex hd ht.fit (by omega) ⟨.int ns.length,H,I.kept λb o e=>e,⟨_,by rw [el]⟩,q⟩
theorem Z7{p pos p2 pos2:Pos}{e:Expr}{t:AF}(hc:X.calm=true)(hm:X.mg "len" = none)(hms:X.mg "set" = none)(ha:BH X [e] t)(hg:Gl X "len" := by rfl)(hgs:Gl X "set" := by rfl)
  (hs:starEach [e] X.env=(false,eval e X.env)::starEach [] X.env:=by rfl) (he:starEach [.Call (.Name "set" p2) [e] [] pos2] X.env=(false,eval (.Call (.Name "set" p2) [e] [] pos2) X.env)::starEach [] X.env:=by rfl) :
  dA X (.Call (.Name "len" p) [.Call (.Name "set" p2) [e] [] pos2] [] pos) (cN DZ t) :=
 imp (n5 PK hg hm PySem.boot_len (iE (tN (JS hc) hgs hms PySem.Pv.boot_set ha (by decide) (by decide) hs (by rfl)) qJ he) (by decide) (by decide) he (by rfl)) λσ H Q aFt=>by
  obtain ⟨S,ρ,Q3,fc,sl,⟨d,ed,q3⟩,k⟩:=aFt;obtain ⟨ds,eds,ed⟩:=bnd ed;refine ⟨S,ρ,λes=>es=ds,fc,sl,⟨_,eds,rfl⟩,λvs H1 es s1 d1 q1=>?_⟩;subst q1;unfold DZ at ed;split at ed
  .rename_i a;obtain ⟨ns,e1,ed⟩:=bnd ed;by_cases hl:ns.length<64
   .rw [if_pos hl] at ed;cases ed;rw [ints_of e1] at d1;obtain ⟨v,r,rfl,h1,h2⟩:=d1.bV;simp only [aP] at h2;subst h2;simp only [Dn] at h1;obtain ⟨t1,xs,rfl,ht,_,dt⟩:=h1;rw [aP.ints.mp dt] at ht;refine ⟨t1,ns,rfl,eO.of ht,hl,λp hp=>⟨p,gM [] ns,rfl,aV,Nat.lt_of_le_of_lt (yV ns []) (by simpa using hl),?_⟩⟩;have e4:gM [] ns=bT ns:=uU ns [];rw [e4];exact k _ _ _ (s1.trans (aR hp)) (by simp only [Dn]) q3
   .rw [if_neg hl] at ed; cases ed
  .cases ed
end
end L6
end
section
namespace K26
open PySem L2 L3 L4 L6 L7 L8 L9 L5
noncomputable def top(i : Nat) : Stmt := PySem.Challenge.pw_risecount_k26_pieces.main.body.getD i (.Pass ⟨0, 0, 0, 0⟩)
section
variable{P:Program}{w:World}{K:PySem.W.Frag}{mg:Str->Option Value}{base:Heap}{f:Addr}{fd:FuncData}
noncomputable abbrev jB:Stmt:=top 1
theorem yY:bD ["order", "ties", "b", "row"] ["order"] (aH jB):=⟨rfl,rfl,rfl,by decide +kernel,rfl,by decide +kernel,by decide +kernel⟩
theorem JT{kk:Nat}(F:m9 K "ties_of" "ties_of" jB f fd)(eV:mg "sorted" = none)(bJ:mg "tuple" = none)(dY:mg "enumerate" = none):aQ P w K mg base dE (kk+1) f fd ["order"] (dR K LL.eW):=by
 refine gS F yY rfl rfl (λcdv A outer s H E hr=>?_);have nd:=yY.nd;exact (bP (GK (i:=1) nd (pJ aM))
  (bP (sE rfl PassesOwn.never (qP dY (aF (x4 0) aM)) (VA (i:=2) (j:=3) rfl nd)
   (aY (BK (ZP (i:=1) (GJ (kK.pe (kN (ls:=["a"]) (fs:=["b"]) (fr:=[2]) rfl (kM (x4 3)) (λ_ _ _ _ _ _ nd=>gK (i:=0) nd (by decide)) (λ_ _ _ _ _ _=>lJ) (λ_ _ _ _ _ _=>(JF (aF (x4 0) (aF (x4 1) aM)))))))))))
  (aY (eK (kU bJ (aF (kK.pe (VT eV (aF (x4 1) aM))) aM))))))
noncomputable abbrev eL:Stmt:=top 3
theorem mX:bD ["order", "ahead", "others"] ["order", "ahead"] (aH eL):=⟨rfl,rfl,rfl,by decide +kernel,rfl,by decide +kernel,by decide +kernel⟩
theorem vI{kk:Nat}(F:m9 K "ready_things" "ready_things" eL f fd)(pV:mg "all" = none)(bK:mg "len" = none)(aZ:mg "range" = none):aQ P w K mg base dE (kk+1) f fd ["order", "ahead"] (dR K LL.dQ):=by
 refine gS F mX rfl rfl (λcdv A outer s H E hr=>?_);have nd:=mX.nd;exact (bP (BJ (i:=2) (ls:=["thing"]) (fs:=["ahead"]) (fr:=[1]) nd rfl (fT aZ (iV bK (aF (x4 0) aM))) (λ_ _ _ _ _ _ nd=>gK (i:=0) nd (by decide)) (λ_ _ _ _ _ _=>DW (MB (x4 0) (x4 1))) (λ_ _ _ _ _ _=>(x4 0)))
  (aY (eK (kK.pe (kN (ls:=["thing"]) (fs:=["ahead", "order"]) (fr:=[1,0]) rfl (kM (x4 2)) (λ_ _ _ _ _ _ nd=>gK (i:=0) nd (by decide)) (λ_ _ _ _ _ _=>DW (yM (aC7 rfl pV (aF (kK.pe (kN (ls:=["lower"]) (fs:=["ahead"]) (fr:=[1]) rfl (kM (sP (x4 2) (x4 0))) (λ_ _ _ _ _ _ nd=>gK (i:=0) nd (by decide)) (λ_ _ _ _ _ _=>lJ) (λ_ _ _ _ _ _=>(in4 (x4 0) (x4 1))))) aM)))) (λ_ _ _ _ _ _=>(x4 0)))))))
noncomputable abbrev lQ:Stmt:=top 4
theorem BV:bD ["ahead", "thing"] ["ahead", "thing"] (aH lQ):=⟨rfl,rfl,rfl,by decide +kernel,rfl,by decide +kernel,by decide +kernel⟩
theorem PM{kk:Nat}(F:m9 K "joined" "joined" lQ f fd)(eV:mg "sorted" = none)(bJ:mg "tuple" = none):aQ P w K mg base dE (kk+1) f fd ["ahead", "thing"] (dR K LL.fD):=by refine gS F BV rfl rfl (λcdv A outer s H E hr=>?_);have nd:=BV.nd;exact (aY (eK (kU bJ (aF (kK.pe (V4 eV (aF (fV (x4 0) (JF (aF (x4 1) aM))) aM))) aM))))
noncomputable abbrev pC:Stmt:=top 9
theorem GW:bD ["one", "other"] ["one", "other"] (aH pC):=⟨rfl,rfl,rfl,by decide +kernel,rfl,by decide +kernel,by decide +kernel⟩
theorem WJ{kk:Nat}(F:m9 K "added" "added" pC f fd)(BW:mg "zip" = none):aQ P w K mg base dE (kk+1) f fd ["one", "other"] (dR K LL.fS):=by refine gS F GW rfl rfl (λcdv A outer s H E hr=>?_);have nd:=GW.nd;exact (aY (eK (kK.pe (kN (ls:=["a", "b"]) (fs:=[]) (fr:=[]) rfl (aFq BW (aF (x4 0) (aF (x4 1) aM))) (λ_ _ _ _ _ _ nd=>JH (i:=0) (j:=1) rfl nd (by decide) (by decide)) (λ_ _ _ _ _ _=>lJ) (λ_ _ _ _ _ _=>(fV (x4 0) (x4 1)))))))
noncomputable abbrev dC:Stmt:=top 8
theorem iX:bD ["shares"] ["shares"] (aH dC):=⟨rfl,rfl,rfl,by decide +kernel,rfl,by decide +kernel,by decide +kernel⟩
theorem pK{kk:Nat}(F:m9 K "one_descent_more" "one_descent_more" dC f fd):aQ P w K mg base dE (kk+1) f fd ["shares"] (dR K LL.bN):=by refine gS F iX rfl rfl (λcdv A outer s H E hr=>?_);have nd:=iX.nd;exact (aY (eK (fV (kK.pe (pJ (aF i4 aM))) (sl4 (x4 0) no4 (po4 (aK4 i4))))))
noncomputable abbrev eB:Stmt:=top 7
theorem oG:bD ["order", "ahead", "last", "shares", "state", "some", "thing", "further"] ["order", "ahead", "last", "shares"] (aH eB):=⟨rfl,rfl,rfl,by decide +kernel,rfl,by decide +kernel,by decide +kernel⟩
theorem oH{kk:Nat}{g1 g2 g3 g4:Addr}{d1 d2 d3 d4:FuncData}(F:m9 K "find_shares" "find_shares" eB f fd)(gP:aQ P w K mg base dE kk g1 d1 ["order", "ahead"] (dR K LL.dQ))(oI:mg "ready_things" = some (.ref g1))(oJ:PySem.W.keepIn K (.ref g1)=true)(oK:Binds K d1 ["order", "ahead"] [])(pD:aQ P w K mg base dE kk g2 d2 ["one", "other"] (dR K LL.fS))(wB:mg "added" = some (.ref g2))(wD:PySem.W.keepIn K (.ref g2)=true)(wF:Binds K d2 ["one", "other"] [])(eU:aQ P w K mg base dE kk g3 d3 ["shares"] (dR K LL.bN))(jY:mg "one_descent_more" = some (.ref g3))(jZ:PySem.W.keepIn K (.ref g3)=true)(j2:Binds K d3 ["shares"] [])(sM:aQ P w K mg base dE kk g4 d4 ["ahead", "thing"] (dR K LL.fD))(GX:mg "joined" = some (.ref g4))(GY:PySem.W.keepIn K (.ref g4)=true)(GZ:Binds K d4 ["ahead", "thing"] [])(iG:mg "find_shares" = some (.ref f))(iH:PySem.W.keepIn K (.ref f)=true)(iI:Binds K fd ["order", "ahead", "last", "shares"] [])(bK:mg "len" = none)(MS:mg "max" = none):∀ n:Nat,aQ P w K mg base dE (kk+n) f fd ["order", "ahead", "last", "shares"] (Z6 K (LL.bB n))
 | 0=>aFp
 | n+1=>by
  have kX:=oH (kk:=kk) F gP oI oJ oK pD wB wD wF eU jY jZ j2 sM GX GY GZ iG iH iI bK MS n;have gP:=gP.mono (Nat.le_add_right kk n);have pD:=pD.mono (Nat.le_add_right kk n);have eU:=eU.mono (Nat.le_add_right kk n);have sM:=sM.mono (Nat.le_add_right kk n);refine aLE F oG rfl rfl (λcdv A outer s H E hr=>?_);have nd:=oG.nd;have hu2:(A.deeper (PyProof.Rows.envOfC "find_shares" (aH eB) s.heap.objs.size f cdv)).units+2<cLine:=by have:=hr.un; omega
  exact ⟨_,(CA (eT (i:=4) nd (JF (aF (x4 1) (aF (x4 2) aM))))
  (aFm (j:=3) hu2 (mQ (aCl hu2 (x4 4) (x4 3))
   (bP (GK (i:=5) nd (VW (kK.pe (pJ (aF i4 aM))) (aFZ rfl MS (aF (iV bK (aF (x4 0) aM)) (aF i4 aM)))))
   (bP (mQ (ZN (iV bK (aF (x4 1) aM)) (iV bK (aF (x4 0) aM)))
    (aY (aFL (i:=5) (GJ i4) i4))
    nA)
   (bP (aFW 5 (sE rfl PassesOwn.never (kM (bR gP hr oI oJ oK (aF (x4 0) (aF (x4 1) aM)))) (oD (i:=6) nd)
    (bP (aCm (i:=7) (j:=3) kX hr iG iH iI (by decide) nd (BS (x4 0) (BS (bR sM hr GX GY GZ (aF (x4 1) (aF (x4 6) aM))) (BS (x4 6) (aAb (j:=3))))))
    (aY (eT (i:=5) nd (bR pD hr wB wD wF (aF (x4 5) (aF (if4 (aCZ (x4 2) (x4 6)) (bR eU hr jY jZ j2 (aF (x4 7) aM)) (x4 7)) aM))))))))
   (aY (aFg (i:=3) hu2 (GJ (x4 5)) (x4 4))))))
   nA) (x4 4)))⟩
noncomputable abbrev gC:Stmt:=top 6
theorem sN:bD ["order", "shares"] ["order"] (aH gC):=⟨rfl,rfl,rfl,by decide +kernel,rfl,by decide +kernel,by decide +kernel⟩
theorem D8{kk:Nat}{g1:Addr}{d1:FuncData}(F:m9 K "shares_on" "shares_on" gC f fd)(kX:aQ P w K mg base dE kk g1 d1 ["order", "ahead", "last", "shares"] (Z6 K (LL.bB 11)))(iG:mg "find_shares" = some (.ref g1))(iH:PySem.W.keepIn K (.ref g1)=true)(iI:Binds K d1 ["order", "ahead", "last", "shares"] []):aQ P w K mg base dE (kk+1) f fd ["order"] (dR K LL.fX):=by
 refine gS F sN rfl rfl (λcdv A outer s H E hr=>?_);have nd:=sN.nd;exact (bP (aFf (i:=1) nd)
  (bP (aLD (j:=1) kX hr iG iH iI (BS (x4 0) (BS (JF aM) (BS i4 (aAb (j:=1))))))
  (aY (eK (x4 1)))))
noncomputable abbrev bZ:Stmt:=top 5
theorem gU:bD ["order"] ["order"] (aH bZ):=⟨rfl,rfl,rfl,by decide +kernel,rfl,by decide +kernel,by decide +kernel⟩
theorem nB{kk:Nat}{g1:Addr}{d1:FuncData}(F:m9 K "shares_by_descents" "shares_by_descents" bZ f fd)(G2:aQ P w K mg base dE kk g1 d1 ["order"] (dR K LL.fX))(G3:mg "shares_on" = some (.ref g1))(G4:PySem.W.keepIn K (.ref g1)=true)(G5:Binds K d1 ["order"] [])(bJ:mg "tuple" = none):aQ P w K mg base dE (kk+1) f fd ["order"] (dR K LL.aU):=by
 refine gS F gU rfl rfl (λcdv A outer s H E hr=>?_);have nd:=gU.nd;have hu2:(A.deeper (PyProof.Rows.envOfC "shares_by_descents" (aH bZ) s.heap.objs.size f cdv)).units+2<cLine:=by have:=hr.un; omega
 exact (aY (eK (kU bJ (aF (aLC hu2 (bR G2 hr G3 G4 G5 (aF (x4 0) aM)) (JF (aF (JF aM) (aF i4 aM)))) aM))))
noncomputable abbrev lR:Stmt:=top 11
theorem BX:bD ["x", "m", "many", "step"] ["x", "m"] (aH lR):=⟨rfl,rfl,rfl,by decide +kernel,rfl,by decide +kernel,by decide +kernel⟩
theorem PN{kk:Nat}(F:m9 K "chosen" "chosen" lR f fd)(aZ:mg "range" = none):aQ P w K mg base dE (kk+1) f fd ["x", "m"] (dR K LL.lE):=by
 refine gS F BX rfl rfl (λcdv A outer s H E hr=>?_);have nd:=BX.nd;exact (bP (eT (i:=2) nd i4)
  (bP (sE rfl PassesOwn.never (fT aZ (x4 1)) (oD (i:=3) nd)
   (aY (eT (i:=2) nd (U4 (qL (x4 2) (DS (x4 0) (x4 3))) (fV (x4 3) i4)))))
  (aY (eK (x4 2)))))
noncomputable abbrev cZ:Stmt:=top 13
theorem iS:bD ["shares", "n", "k"] ["shares", "n", "k"] (aH cZ):=⟨rfl,rfl,rfl,by decide +kernel,rfl,by decide +kernel,by decide +kernel⟩
theorem oM{kk:Nat}{g1:Addr}{d1:FuncData}(F:m9 K "sum_over_descents" "sum_over_descents" cZ f fd)(WK:aQ P w K mg base dE kk g1 d1 ["x", "m"] (dR K LL.lE))(WL:mg "chosen" = some (.ref g1))(WM:PySem.W.keepIn K (.ref g1)=true)(WN:Binds K d1 ["x", "m"] [])(dY:mg "enumerate" = none)(WQ:mg "sum" = none):aQ P w K mg base dE (kk+1) f fd ["shares", "n", "k"] (dR K LL.cC):=by refine gS F iS rfl rfl (λcdv A outer s H E hr=>?_);have nd:=iS.nd;exact (aY (eK (aKb rfl WQ (aF (kK.pe (kN (ls:=["d", "share"]) (fs:=["n", "k"]) (fr:=[1,2]) rfl (qP dY (aF (x4 0) aM)) (λ_ _ _ _ _ _ nd=>JH (i:=0) (j:=1) rfl nd (by decide) (by decide)) (λ_ _ _ _ _ _=>lJ) (λ_ _ _ _ _ _=>(qL (x4 1) (bR WK hr WL WM WN (aF (DS (DS (fV (x4 3) (x4 2)) i4) (x4 0)) (aF (x4 2) aM))))))) aM))))
noncomputable abbrev iA:Stmt:=top 12
theorem uV:bD ["order", "k"] ["order", "k"] (aH iA):=⟨rfl,rfl,rfl,by decide +kernel,rfl,by decide +kernel,by decide +kernel⟩
theorem G6{kk:Nat}{g1 g2:Addr}{d1 d2:FuncData}(F:m9 K "count_at" "count_at" iA f fd)(pL:aQ P w K mg base dE kk g1 d1 ["shares", "n", "k"] (dR K LL.cC))(pM:mg "sum_over_descents" = some (.ref g1))(pN:PySem.W.keepIn K (.ref g1)=true)(pO:Binds K d1 ["shares", "n", "k"] [])(fG:aQ P w K mg base dE kk g2 d2 ["order"] (dR K LL.aU))(fH:mg "shares_by_descents" = some (.ref g2))(fI:PySem.W.keepIn K (.ref g2)=true)(fJ:Binds K d2 ["order"] [])(bK:mg "len" = none):aQ P w K mg base dE (kk+1) f fd ["order", "k"] (dR K LL.eQ):=by refine gS F uV rfl rfl (λcdv A outer s H E hr=>?_);have nd:=uV.nd;exact (aY (eK (bR pL hr pM pN pO (aF (bR fG hr fH fI fJ (aF (x4 0) aM)) (aF (iV bK (aF (x4 0) aM)) (aF (x4 1) aM))))))
noncomputable abbrev eX:Stmt:=top 16
theorem oN:bD ["factors", "shift"] ["factors", "shift"] (aH eX):=⟨rfl,rfl,rfl,by decide +kernel,rfl,by decide +kernel,by decide +kernel⟩
theorem yZ{kk:Nat}(F:m9 K "times_k_and" "times_k_and" eX f fd)(BW:mg "zip" = none):aQ P w K mg base dE (kk+1) f fd ["factors", "shift"] (dR K LL.eA):=by refine gS F oN rfl rfl (λcdv A outer s H E hr=>?_);have nd:=oN.nd;exact (aY (eK (kK.pe (kN (ls:=["a", "b"]) (fs:=["shift"]) (fr:=[1]) rfl (aFq BW (aF (fV (x4 0) (kK.pe (pJ (aF i4 aM)))) (aF (fV (kK.pe (pJ (aF i4 aM))) (x4 0)) aM))) (λ_ _ _ _ _ _ nd=>JH (i:=0) (j:=1) rfl nd (by decide) (by decide)) (λ_ _ _ _ _ _=>lJ) (λ_ _ _ _ _ _=>(fV (qL (x4 2) (x4 0)) (x4 1)))))))
noncomputable abbrev dD:Stmt:=top 15
theorem iY:bD ["share", "shift", "n", "factors", "step"] ["share", "shift", "n"] (aH dD):=⟨rfl,rfl,rfl,by decide +kernel,rfl,by decide +kernel,by decide +kernel⟩
theorem pP{kk:Nat}{g1:Addr}{d1:FuncData}(F:m9 K "product_of_steps" "product_of_steps" dD f fd)(zW:aQ P w K mg base dE kk g1 d1 ["factors", "shift"] (dR K LL.eA))(zX:mg "times_k_and" = some (.ref g1))(zY:PySem.W.keepIn K (.ref g1)=true)(zZ:Binds K d1 ["factors", "shift"] [])(aZ:mg "range" = none):aQ P w K mg base dE (kk+1) f fd ["share", "shift", "n"] (dR K LL.bY):=by
 refine gS F iY rfl rfl (λcdv A outer s H E hr=>?_);have nd:=iY.nd;exact (bP (eT (i:=3) nd (kK.pe (pJ (aF (x4 0) aM))))
  (bP (sE rfl PassesOwn.never (fT aZ (x4 2)) (oD (i:=4) nd)
   (aY (eT (i:=3) nd (bR zW hr zX zY zZ (aF (x4 3) (aF (DS (x4 1) (x4 4)) aM))))))
  (aY (eK (x4 3)))))
noncomputable abbrev fL:Stmt:=top 14
theorem pW:bD ["order", "n", "factors", "d", "share"] ["order"] (aH fL):=⟨rfl,rfl,rfl,by decide +kernel,rfl,by decide +kernel,by decide +kernel⟩
theorem AA{kk:Nat}{g1 g2 g3:Addr}{d1 d2 d3:FuncData}(F:m9 K "polynomial" "polynomial" fL f fd)(fG:aQ P w K mg base dE kk g1 d1 ["order"] (dR K LL.aU))(fH:mg "shares_by_descents" = some (.ref g1))(fI:PySem.W.keepIn K (.ref g1)=true)(fJ:Binds K d1 ["order"] [])(pD:aQ P w K mg base dE kk g2 d2 ["one", "other"] (dR K LL.fS))(wB:mg "added" = some (.ref g2))(wD:PySem.W.keepIn K (.ref g2)=true)(wF:Binds K d2 ["one", "other"] [])(qR:aQ P w K mg base dE kk g3 d3 ["share", "shift", "n"] (dR K LL.bY))(qS:mg "product_of_steps" = some (.ref g3))(qT:PySem.W.keepIn K (.ref g3)=true)(qU:Binds K d3 ["share", "shift", "n"] [])(bJ:mg "tuple" = none)(dY:mg "enumerate" = none)(bK:mg "len" = none):aQ P w K mg base dE (kk+1) f fd ["order"] (dR K LL.eR):=by
 refine gS F pW rfl rfl (λcdv A outer s H E hr=>?_);have nd:=pW.nd;exact (bP (eT (i:=1) nd (iV bK (aF (x4 0) aM)))
  (bP (eT (i:=2) nd (kK.pe (VW (kK.pe (pJ (aF i4 aM))) (fV (x4 1) i4))))
  (bP (sE rfl PassesOwn.never (qP dY (aF (bR fG hr fH fI fJ (aF (x4 0) aM)) aM)) (VA (i:=3) (j:=4) rfl nd)
   (aY (eT (i:=2) nd (bR pD hr wB wD wF (aF (x4 2) (aF (bR qR hr qS qT qU (aF (x4 4) (aF (DS (DS (x4 1) i4) (x4 3)) (aF (x4 1) aM)))) aM))))))
  (aY (eK (kU bJ (aF (x4 2) aM)))))))
noncomputable abbrev lU:Stmt:=top 18
theorem BY:bD ["pieces", "one", "other"] ["pieces", "one", "other"] (aH lU):=⟨rfl,rfl,rfl,by decide +kernel,rfl,by decide +kernel,by decide +kernel⟩
theorem PQ{kk:Nat}(F:m9 K "merged" "merged" lU f fd):aQ P w K mg base dE (kk+1) f fd ["pieces", "one", "other"] (dR K lL):=by refine gS F BY rfl rfl (λcdv A outer s H E hr=>?_);have nd:=BY.nd;exact (aY (eK (kK.pe (kN (ls:=["piece"]) (fs:=["one", "other"]) (fr:=[1,2]) rfl (kM (x4 0)) (λ_ _ _ _ _ _ nd=>gK (i:=0) nd (by decide)) (λ_ _ _ _ _ _=>lJ) (λ_ _ _ _ _ _=>(if4 (ZN (x4 0) (x4 2)) (x4 1) (x4 0)))))))
noncomputable abbrev eZ:Stmt:=top 17
theorem oO:bD ["order", "pieces", "a", "b"] ["order"] (aH eZ):=⟨rfl,rfl,rfl,by decide +kernel,rfl,by decide +kernel,by decide +kernel⟩
theorem y1{kk:Nat}{g1 g2:Addr}{d1 d2:FuncData}(F:m9 K "pieces_many" "pieces_many" eZ f fd)(PU:aQ P w K mg base dE kk g1 d1 ["order"] (dR K LL.eW))(PV:mg "ties_of" = some (.ref g1))(PX:PySem.W.keepIn K (.ref g1)=true)(PY:Binds K d1 ["order"] [])(WR:aQ P w K mg base dE kk g2 d2 ["pieces", "one", "other"] (dR K lL))(WU:mg "merged" = some (.ref g2))(WV:PySem.W.keepIn K (.ref g2)=true)(WW:Binds K d2 ["pieces", "one", "other"] [])(bK:mg "len" = none)(WY:mg "set" = none)(mS:mg "list" = none)(aZ:mg "range" = none):aQ P w K mg base dE (kk+1) f fd ["order"] (dR K cB):=by
 refine gS F oO rfl rfl (λcdv A outer s H E hr=>?_);have nd:=oO.nd;exact (bP (eT (i:=1) nd (kK.pe (qO rfl mS aZ (aF (iV bK (aF (x4 0) aM)) aM))))
  (bP (sE rfl PassesOwn.never (kM (bR PU hr PV PX PY (aF (x4 0) aM))) (VA (i:=2) (j:=3) rfl nd)
   (aY (eT (i:=1) nd (bR WR hr WU WV WW (aF (x4 1) (aF (sP (x4 1) (x4 2)) (aF (sP (x4 1) (x4 3)) aM)))))))
  (aY (eK (L6.Z7 rfl bK WY (aF (x4 1) aM))))))
noncomputable abbrev jC:Stmt:=top 20
theorem y3:bD ["_law_cell_here", "_law_k", "_law_salt", "_law_one", "_law_two"] ["_law_cell_here", "_law_k", "_law_salt"] (aH jC):=⟨rfl,rfl,rfl,by decide +kernel,rfl,by decide +kernel,by decide +kernel⟩
theorem JU{kk:Nat}(F:m9 K "_law_mixed" "_law_mixed" jC f fd):aQ P w K mg base dE (kk+1) f fd ["_law_cell_here", "_law_k", "_law_salt"] (dR K LL.eG):=by
 refine gS F y3 rfl rfl (λcdv A outer s H E hr=>?_);have nd:=y3.nd;exact (bP (eT (i:=3) nd (pI (qL (fV (fV (fV (x4 0) (qL (qL i4 (x4 1)) (x4 1))) (qL i4 (x4 1))) (x4 2)) i4) i4))
  (bP (eT (i:=4) nd (pI (fV (fV (qL (x4 3) (fV (U4 (x4 3) i4) i4)) (qL i4 (x4 1))) (x4 2)) i4))
  (aY (eK (pI (qL (x4 4) i4) i4)))))
noncomputable abbrev jD:Stmt:=top 21
theorem y4:bD ["_law_cell_here", "_law_many", "_law_salt", "_law_found", "_law_left", "_law_k"] ["_law_cell_here", "_law_many", "_law_salt"] (aH jD):=⟨rfl,rfl,rfl,by decide +kernel,rfl,by decide +kernel,by decide +kernel⟩
theorem JV{kk:Nat}{g1:Addr}{d1:FuncData}(F:m9 K "_law_draws" "_law_draws" jD f fd)(tW:aQ P w K mg base dE kk g1 d1 ["_law_cell_here", "_law_k", "_law_salt"] (dR K LL.eG))(tX:mg "_law_mixed" = some (.ref g1))(tY:PySem.W.keepIn K (.ref g1)=true)(tZ:Binds K d1 ["_law_cell_here", "_law_k", "_law_salt"] [])(aZ:mg "range" = none):aQ P w K mg base dE (kk+1) f fd ["_law_cell_here", "_law_many", "_law_salt"] (dR K LL.dM):=by
 refine gS F y4 rfl rfl (λcdv A outer s H E hr=>?_);have nd:=y4.nd;exact (bP (GK (i:=3) nd (pJ aM))
  (bP (eT (i:=4) nd i4)
  (bP (mQ (aFB (x4 0) (U5 i4 i4))
   (aY (eT (i:=4) nd (x4 0)))
   nA)
  (bP (sE rfl PassesOwn.never (fT aZ (x4 1)) (oD (i:=5) nd)
   (aY (mQ (aCZ (x4 4) i4)
    (bP (BK (ZO (i:=3) (GJ (pI (x4 4) i4))))
    (aY (eT (i:=4) nd (U4 (x4 4) i4))))
    (aY (BK (ZO (i:=3) (GJ (bR tW hr tX tY tZ (aF (x4 0) (aF (x4 5) (aF (x4 2) aM)))))))))))
  (aY (eK (x4 3)))))))
noncomputable abbrev lV:Stmt:=top 22
theorem BZ:bD ["_law_script", "_law_k"] ["_law_script", "_law_k"] (aH lV):=⟨rfl,rfl,rfl,by decide +kernel,rfl,by decide +kernel,by decide +kernel⟩
theorem PZ{kk:Nat}(F:m9 K "_law_cell" "_law_cell" lV f fd)(bK:mg "len" = none):aQ P w K mg base dE (kk+1) f fd ["_law_script", "_law_k"] (dR K LL.dU):=by
 refine gS F BZ rfl rfl (λcdv A outer s H E hr=>?_);have nd:=BZ.nd;exact (bP (mQ (ZN (iV bK (aF (x4 0) aM)) i4)
   (aY (eK i4))
   nA)
  (aY (eK (sP (x4 0) (pI (x4 1) (iV bK (aF (x4 0) aM)))))))
noncomputable abbrev iB:Stmt:=top 23
theorem y6:bD ["_law_draws_here", "_law_n", "_law_thick", "_law_rest", "_law_word", "_law_k", "_law_low", "_law_at", "_law_j", "_law_under", "_law_i"] ["_law_draws_here", "_law_n", "_law_thick"] (aH iB):=⟨rfl,rfl,rfl,by decide +kernel,rfl,by decide +kernel,by decide +kernel⟩
theorem JW{kk:Nat}(F:m9 K "_law_order" "_law_order" iB f fd)(aZ:mg "range" = none)(eV:mg "sorted" = none)(bJ:mg "tuple" = none)(bK:mg "len" = none)(mS:mg "list" = none):aQ P w K mg base dE (kk+1) f fd ["_law_draws_here", "_law_n", "_law_thick"] (dR K LL.i7):=by
 refine gS F y6 rfl rfl (λcdv A outer s H E hr=>?_);have nd:=y6.nd;have hu:(A.deeper (PyProof.Rows.envOfC "_law_order" (aH iB) s.heap.objs.size f cdv)).units+1<cLine:=by have:=hr.un; omega
 exact (bP (GK (i:=3) nd (qO rfl mS aZ (aF (x4 1) aM)))
  (bP (GK (i:=4) nd (pJ aM))
  (bP (sE rfl PassesOwn.never (fT aZ (x4 1)) (oD (i:=5) nd)
   (aY (BK (ZO (i:=4) (aKr (i:=3) (px4 (pI (sP (x4 0) (x4 5)) (iV bK (aF (x4 3) aM)))))))))
  (bP (U9 (i:=6) nd)
  (bP (eT (i:=7) nd (x4 1))
  (bP (sE rfl PassesOwn.never (fT aZ (x4 1)) (oD (i:=8) nd)
   (bP (eT (i:=9) nd (kK.pe (pJ aM)))
   (bP (sE rfl PassesOwn.never (fT aZ (x4 8)) (oD (i:=10) nd)
    (bP (mQ (aFA (pI (sP (x4 0) (x4 7)) i4) (x4 2))
     (aY (aFJ (i:=9) nd (aEv (x4 9) (kK.pe (kN (ls:=["_law_a"]) (fs:=["_law_under"]) (fr:=[9]) rfl (kM (fV (aFF hu (x4 6) (sP (x4 4) (x4 10))) (kK.pe (pJ (aF (sP (x4 4) (x4 10)) aM))))) (λ_ _ _ _ _ _ nd=>gK (i:=0) nd (by decide)) (λ_ _ _ _ _ _=>DW (MB (x4 0) (x4 1))) (λ_ _ _ _ _ _=>(x4 0)))))))
     nA)
    (aY (eT (i:=7) nd (fV (x4 7) i4)))))
   (aY (aFM (i:=6) hu (GJ (x4 9)) (sP (x4 4) (x4 8)))))))
  (aY (eK (kU bJ (aF (kK.pe (kN (ls:=["_law_b"]) (fs:=["_law_low"]) (fr:=[6]) rfl (fT aZ (x4 1)) (λ_ _ _ _ _ _ nd=>gK (i:=0) nd (by decide)) (λ_ _ _ _ _ _=>lJ) (λ_ _ _ _ _ _=>(kU bJ (aF (kK.pe (MC eV (aF (aFF hu (x4 1) (x4 0)) aM))) aM))))) aM))))))))))
noncomputable abbrev jE:Stmt:=top 24
theorem y7:bD ["_law_script", "_law_k", "_law_most", "_law_salt", "_law_head", "_law_n", "_law_draws_here"] ["_law_script", "_law_k", "_law_most", "_law_salt"] (aH jE):=⟨rfl,rfl,rfl,by decide +kernel,rfl,by decide +kernel,by decide +kernel⟩
theorem JX{kk:Nat}{g1 g2 g3:Addr}{d1 d2 d3:FuncData}(F:m9 K "_law_drawn" "_law_drawn" jE f fd)(P0:aQ P w K mg base dE kk g1 d1 ["_law_draws_here", "_law_n", "_law_thick"] (dR K LL.i7))(P4:mg "_law_order" = some (.ref g1))(P5:PySem.W.keepIn K (.ref g1)=true)(P6:Binds K d1 ["_law_draws_here", "_law_n", "_law_thick"] [])(jF:aQ P w K mg base dE kk g2 d2 ["_law_cell_here", "_law_many", "_law_salt"] (dR K LL.dM))(jG:mg "_law_draws" = some (.ref g2))(jH:PySem.W.keepIn K (.ref g2)=true)(jI:Binds K d2 ["_law_cell_here", "_law_many", "_law_salt"] [])(j3:aQ P w K mg base dE kk g3 d3 ["_law_script", "_law_k"] (dR K LL.dU))(j4:mg "_law_cell" = some (.ref g3))(j5:PySem.W.keepIn K (.ref g3)=true)(j6:Binds K d3 ["_law_script", "_law_k"] []):aQ P w K mg base dE (kk+1) f fd ["_law_script", "_law_k", "_law_most", "_law_salt"] (dR K LL.dS):=by
 refine gS F y7 rfl rfl (λcdv A outer s H E hr=>?_);have nd:=y7.nd;exact (bP (eT (i:=4) nd (bR jF hr jG jH jI (aF (bR j3 hr j4 j5 j6 (aF (x4 0) (aF (x4 1) aM))) (aF i4 (aF (x4 3) aM)))))
  (bP (eT (i:=5) nd (pI (sP (x4 4) i4) (fV (x4 2) i4)))
  (bP (eT (i:=6) nd (bR jF hr jG jH jI (aF (bR j3 hr j4 j5 j6 (aF (x4 0) (aF (fV (x4 1) i4) aM))) (aF (fV (x4 5) (U4 (qL (x4 5) (DS (x4 5) i4)) i4)) (aF (fV (x4 3) i4) aM)))))
  (aY (eK (bR P0 hr P4 P5 P6 (aF (x4 6) (aF (x4 5) (aF (sP (kK.pe (pJ (aF i4 (aF i4 (aF i4 (aF i4 (aF i4 (aF i4 (aF i4 (aF i4 aM)))))))))) (pI (sP (x4 4) i4) i4)) aM)))))))))
noncomputable abbrev lW:Stmt:=top 25
theorem B0:bD ["_law_found", "_law_due"] ["_law_found", "_law_due"] (aH lW):=⟨rfl,rfl,rfl,by decide +kernel,rfl,by decide +kernel,by decide +kernel⟩
theorem B1{kk:Nat}(F:m9 K "_law_same" "_law_same" lW f fd)(j7:mg "_law_same" = some (.ref f))(j8:PySem.W.keepIn K (.ref f)=true)(j9:Binds K fd ["_law_found", "_law_due"] [])(bH:mg "isinstance" = none)(MT:mg "str" = none)(uW:mg "int" = none)(mT:mg "bool" = none)(bJ:mg "tuple" = none)(bK:mg "len" = none)(aZ:mg "range" = none)(pV:mg "all" = none):∀ n:Nat,aQ P w K mg base dE (kk+n) f fd ["_law_found", "_law_due"] (dR K (LL.bI n))
 | 0=>aFQ
 | n+1=>by
  have lX:=B1 (kk:=kk) F j7 j8 j9 bH MT uW mT bJ bK aZ pV n;refine gS F B0 rfl rfl (λcdv A outer s H E hr=>?_);have nd:=B0.nd;exact (bP (mQ (yM (yN ED.t bH bJ PyProof.Rows.boot_tuple (x4 1)))
   (bP (mQ (QT.pt (aC2 (GH (yM (yN ED.t bH bJ PyProof.Rows.boot_tuple (x4 0)))) (aC1 (aC0 (iV bK (aF (x4 0) aM)) (iV bK (aF (x4 1) aM))))))
    (aY (eK b4))
    nA)
   (aY (eK (aC7 rfl pV (aF (kK.pe (kN (ls:=["_law_k"]) (fs:=["_law_found", "_law_due"]) (fr:=[0,1]) rfl (fT aZ (iV bK (aF (x4 1) aM))) (λ_ _ _ _ _ _ nd=>gK (i:=0) nd (by decide)) (λ_ _ _ _ _ _=>lJ) (λ_ _ _ _ _ _=>(bR lX hr j7 j8 j9 (aF (sP (x4 1) (x4 0)) (aF (sP (x4 2) (x4 0)) aM)))))) aM)))))
   nA)
  (bP (mQ (aKW (x4 1) n4)
   (aY (eK (is4 (x4 0) n4)))
   nA)
  (bP (mQ (yM (yN ED.b bH mT PyProof.Rows.boot_bool (x4 1)))
   (aY (eK (OM (yN ED.b bH mT PyProof.Rows.boot_bool (x4 0)) (OL (eq4 (x4 0) (x4 1))))))
   nA)
  (bP (mQ (yM (yN ED.i bH uW PyProof.Rows.boot_int (x4 1)))
   (aY (eK (OM (yN ED.i bH uW PyProof.Rows.boot_int (x4 0)) (OM (aFE (yN ED.b bH mT PyProof.Rows.boot_bool (x4 0))) (OL (eq4 (x4 0) (x4 1)))))))
   nA)
  (aY (eK (OM (yN ED.s bH MT PyProof.Rows.boot_str (x4 0)) (OL (eq4 (x4 0) (x4 1))))))))))
noncomputable abbrev jJ:Stmt:=top 26
theorem y9:bD ["_law_found", "_law_many"] ["_law_found", "_law_many"] (aH jJ):=⟨rfl,rfl,rfl,by decide +kernel,rfl,by decide +kernel,by decide +kernel⟩
theorem JY{kk:Nat}(F:m9 K "_law_tuple" "_law_tuple" jJ f fd)(bH:mg "isinstance" = none)(mT:mg "bool" = none)(uW:mg "int" = none)(pV:mg "all" = none)(bK:mg "len" = none)(bJ:mg "tuple" = none):aQ P w K mg base dE (kk+1) f fd ["_law_found", "_law_many"] (dR K LL.fK):=by
 refine gS F y9 rfl rfl (λcdv A outer s H E hr=>?_);have nd:=y9.nd;exact (bP (mQ (QT.pt (aC2 (GH (yM (yN ED.t bH bJ PyProof.Rows.boot_tuple (x4 0)))) (aC1 (aC0 (iV bK (aF (x4 0) aM)) (x4 1)))))
   (aY (eK b4))
   nA)
  (aY (eK (aC7 rfl pV (aF (kK.pe (kN (ls:=["_law_part"]) (fs:=[]) (fr:=[]) rfl (kM (x4 0)) (λ_ _ _ _ _ _ nd=>gK (i:=0) nd (by decide)) (λ_ _ _ _ _ _=>lJ) (λ_ _ _ _ _ _=>(OM (yN ED.i bH uW PyProof.Rows.boot_int (x4 0)) (OL (aFE (yN ED.b bH mT PyProof.Rows.boot_bool (x4 0)))))))) aM)))))
noncomputable abbrev jK:Stmt:=top 27
theorem zA:bD ["_law_cell_here", "_law_most", "_law_salt", "_law_found", "_law_k"] ["_law_cell_here", "_law_most", "_law_salt"] (aH jK):=⟨rfl,rfl,rfl,by decide +kernel,rfl,by decide +kernel,by decide +kernel⟩
theorem JZ{kk:Nat}{g1:Addr}{d1:FuncData}(F:m9 K "_law_great" "_law_great" jK f fd)(tW:aQ P w K mg base dE kk g1 d1 ["_law_cell_here", "_law_k", "_law_salt"] (dR K LL.eG))(tX:mg "_law_mixed" = some (.ref g1))(tY:PySem.W.keepIn K (.ref g1)=true)(tZ:Binds K d1 ["_law_cell_here", "_law_k", "_law_salt"] [])(aZ:mg "range" = none):aQ P w K mg base dE (kk+1) f fd ["_law_cell_here", "_law_most", "_law_salt"] (dR K LL.i8):=by
 refine gS F zA rfl rfl (λcdv A outer s H E hr=>?_);have nd:=zA.nd;exact (bP (mQ (aFB (x4 0) (U5 i4 i4))
   (aY (eK (pI (U4 (x4 0) i4) (x4 1))))
   nA)
  (bP (eT (i:=3) nd i4)
  (bP (sE rfl PassesOwn.never (fT aZ i4) (oD (i:=4) nd)
   (aY (eT (i:=3) nd (fV (qL (x4 3) i4) (bR tW hr tX tY tZ (aF (x4 0) (aF (x4 4) (aF (x4 2) aM))))))))
  (aY (eK (pI (x4 3) (x4 1)))))))
noncomputable abbrev jL:Stmt:=top 28
theorem zB:bD ["_law_script", "_law_at", "_law_salt", "_law_head", "_law_far"] ["_law_script", "_law_at", "_law_salt"] (aH jL):=⟨rfl,rfl,rfl,by decide +kernel,rfl,by decide +kernel,by decide +kernel⟩
theorem J0{kk:Nat}{g1 g2 g3:Addr}{d1 d2 d3:FuncData}(F:m9 K "_law_any_k" "_law_any_k" jL f fd)(P7:aQ P w K mg base dE kk g1 d1 ["_law_cell_here", "_law_most", "_law_salt"] (dR K LL.i8))(P8:mg "_law_great" = some (.ref g1))(P9:PySem.W.keepIn K (.ref g1)=true)(QA:Binds K d1 ["_law_cell_here", "_law_most", "_law_salt"] [])(j3:aQ P w K mg base dE kk g2 d2 ["_law_script", "_law_k"] (dR K LL.dU))(j4:mg "_law_cell" = some (.ref g2))(j5:PySem.W.keepIn K (.ref g2)=true)(j6:Binds K d2 ["_law_script", "_law_k"] [])(jF:aQ P w K mg base dE kk g3 d3 ["_law_cell_here", "_law_many", "_law_salt"] (dR K LL.dM))(jG:mg "_law_draws" = some (.ref g3))(jH:PySem.W.keepIn K (.ref g3)=true)(jI:Binds K d3 ["_law_cell_here", "_law_many", "_law_salt"] []):aQ P w K mg base dE (kk+1) f fd ["_law_script", "_law_at", "_law_salt"] (dR K LL.fY):=by
 refine gS F zB rfl rfl (λcdv A outer s H E hr=>?_);have nd:=zB.nd;exact (bP (eT (i:=3) nd (bR jF hr jG jH jI (aF (bR j3 hr j4 j5 j6 (aF (x4 0) (aF (x4 1) aM))) (aF i4 (aF (x4 2) aM)))))
  (bP (mQ (ZN (pI (sP (x4 3) i4) i4) i4)
   (aY (eK (DS (pI (sP (x4 3) i4) i4) i4)))
   nA)
  (bP (eT (i:=4) nd (bR P7 hr P8 P9 QA (aF (bR j3 hr j4 j5 j6 (aF (x4 0) (aF (fV (x4 1) i4) aM))) (aF (sP (kK.pe (pJ (aF (U5 i4 i4) (aF (U5 i4 i4) (aF (U5 i4 i4) aM))))) (pI (sP (x4 3) i4) i4)) (aF (fV (x4 2) i4) aM)))))
  (aY (eK (qL (x4 4) (DS i4 (qL i4 (pI (sP (x4 3) i4) i4)))))))))
noncomputable abbrev jM:Stmt:=top 29
theorem zC:bD ["_law_order_here", "_law_left", "_law_found", "_law_piece", "_law_at", "_law_b", "_law_tied"] ["_law_order_here"] (aH jM):=⟨rfl,rfl,rfl,by decide +kernel,rfl,by decide +kernel,by decide +kernel⟩
theorem J1{kk:Nat}(F:m9 K "_law_flood" "_law_flood" jM f fd)(bK:mg "len" = none)(mS:mg "list" = none)(aZ:mg "range" = none):aQ P w K mg base dE (kk+1) f fd ["_law_order_here"] (dR K gB):=by
 refine gS F zC rfl rfl (λcdv A outer s H E hr=>?_);have nd:=zC.nd;exact (bP (eT (i:=1) nd (kK.pe (qO rfl mS aZ (aF (iV bK (aF (x4 0) aM)) aM))))
  (bP (eT (i:=2) nd i4)
  (bP (VB PassesOwn.never (aCZ (iV bK (aF (x4 1) aM)) i4)
   (bP (eT (i:=2) nd (fV (x4 2) i4))
   (bP (GK (i:=3) nd (pJ (aF (sP (x4 1) i4) aM)))
   (bP (eT (i:=4) nd i4)
   (bP (VB PassesOwn.never (aFA (x4 4) (iV bK (aF (x4 3) aM)))
    (bP (sE rfl PassesOwn.never (kM (x4 1)) (oD (i:=5) nd)
     (bP (aFK (i:=6) nd (px4 (or4 (in4 (x4 5) (sP (x4 0) (sP (x4 3) (x4 4)))) (OL (in4 (sP (x4 3) (x4 4)) (sP (x4 0) (x4 5)))))))
     (aY (mQ (QT.pt (aFD (yM (x4 6)) (aFC (MB (x4 5) (x4 3)))))
      (aY (BK (ZO (i:=3) (GJ (x4 5)))))
      nA))))
    (aY (eT (i:=4) nd (fV (x4 4) i4)))))
   (aY (JO (i:=1) (ls:=["_law_b"]) (fs:=["_law_piece"]) (fr:=[3]) nd rfl (kM (x4 1)) (λ_ _ _ _ _ _ nd=>gK (i:=0) nd (by decide)) (λ_ _ _ _ _ _=>DW (MB (x4 0) (x4 1))) (λ_ _ _ _ _ _=>(x4 0)))))))))
  (aY (eK (x4 2))))))
noncomputable abbrev iC:Stmt:=top 30
theorem uX:bD ["_law_one", "_law_other", "_law_more"] ["_law_one", "_law_other"] (aH iC):=⟨rfl,rfl,rfl,by decide +kernel,rfl,by decide +kernel,by decide +kernel⟩
theorem G7{kk:Nat}(F:m9 K "_law_beside" "_law_beside" iC f fd)(bJ:mg "tuple" = none)(bK:mg "len" = none):aQ P w K mg base dE (kk+1) f fd ["_law_one", "_law_other"] (dR K h8):=by
 refine gS F uX rfl rfl (λcdv A outer s H E hr=>?_);have nd:=uX.nd;exact (bP (BJ (i:=2) (ls:=["_law_row"]) (fs:=["_law_one"]) (fr:=[0]) nd rfl (kM (x4 1)) (λ_ _ _ _ _ _ nd=>gK (i:=0) nd (by decide)) (λ_ _ _ _ _ _=>lJ) (λ_ _ _ _ _ _=>(kU bJ (aF (kK.pe (kN (ls:=["_law_a"]) (fs:=["_law_one"]) (fr:=[1]) rfl (kM (x4 0)) (λ_ _ _ _ _ _ nd=>gK (i:=0) nd (by decide)) (λ_ _ _ _ _ _=>lJ) (λ_ _ _ _ _ _=>(fV (x4 0) (iV bK (aF (x4 1) aM)))))) aM))))
  (aY (eK (fV (x4 0) (kU bJ (aF (x4 2) aM))))))
noncomputable abbrev jN:Stmt:=top 31
theorem zD:bD ["_law_order_here", "_law_word", "_law_found", "_law_b"] ["_law_order_here", "_law_word"] (aH jN):=⟨rfl,rfl,rfl,by decide +kernel,rfl,by decide +kernel,by decide +kernel⟩
theorem J3{kk:Nat}(F:m9 K "_law_named" "_law_named" jN f fd)(bJ:mg "tuple" = none)(bK:mg "len" = none)(aZ:mg "range" = none)(eV:mg "sorted" = none):aQ P w K mg base dE (kk+1) f fd ["_law_order_here", "_law_word"] (dR K h9):=by
 refine gS F zD rfl rfl (λcdv A outer s H E hr=>?_);have nd:=zD.nd;exact (bP (GK (i:=2) nd (VW (kK.pe (pJ (aF (JF aM) aM))) (iV bK (aF (x4 0) aM))))
  (bP (sE rfl PassesOwn.never (fT aZ (iV bK (aF (x4 0) aM))) (oD (i:=3) nd)
   (aY (aFL (i:=2) (GJ (kU bJ (aF (kK.pe (MC eV (aF (kK.pe (kN (ls:=["_law_a"]) (fs:=["_law_word"]) (fr:=[1]) rfl (kM (sP (x4 0) (x4 3))) (λ_ _ _ _ _ _ nd=>gK (i:=0) nd (by decide)) (λ_ _ _ _ _ _=>lJ) (λ_ _ _ _ _ _=>(sP (x4 1) (x4 0))))) aM))) aM))) (sP (x4 1) (x4 3)))))
  (aY (eK (kU bJ (aF (x4 2) aM))))))
noncomputable abbrev sO:Stmt:=top 32
theorem WZ:bD ["_law_script", "_law_order_here", "_law_pieces", "_law_row", "_law_one", "_law_other", "_law_both", "_law_far", "_law_word", "_law_d", "_law_due"] ["_law_script"] (aH sO):=⟨rfl,rfl,rfl,by decide +kernel,rfl,by decide +kernel,by decide +kernel⟩
theorem aCn{kk:Nat}{g1 g2 g3 g4 g5 g6 g7 g8 g9 g10 g11 g12:Addr}{d1 d2 d3 d4 d5 d6 d7 d8 d9 d10 d11 d12:FuncData}(F:m9 K "law" "law" sO f fd)(lX:aQ P w K mg base dE kk g1 d1 ["_law_found", "_law_due"] (dR K (LL.bI 6)))(j7:mg "_law_same" = some (.ref g1))(j8:PySem.W.keepIn K (.ref g1)=true)(j9:Binds K d1 ["_law_found", "_law_due"] [])(iJ:aQ P w K mg base dE kk g2 d2 ["order"] (dR K cB))(iK:mg "pieces_many" = some (.ref g2))(iL:PySem.W.keepIn K (.ref g2)=true)(iM:Binds K d2 ["order"] [])(QB:aQ P w K mg base dE kk g3 d3 ["_law_order_here", "_law_word"] (dR K h9))(QC:mg "_law_named" = some (.ref g3))(QD:PySem.W.keepIn K (.ref g3)=true)(QE:Binds K d3 ["_law_order_here", "_law_word"] [])(t6:aQ P w K mg base dE kk g4 d4 ["_law_order_here"] (dR K gB))(t7:mg "_law_flood" = some (.ref g4))(t8:PySem.W.keepIn K (.ref g4)=true)(t9:Binds K d4 ["_law_order_here"] [])(jF:aQ P w K mg base dE kk g5 d5 ["_law_cell_here", "_law_many", "_law_salt"] (dR K LL.dM))(jG:mg "_law_draws" = some (.ref g5))(jH:PySem.W.keepIn K (.ref g5)=true)(jI:Binds K d5 ["_law_cell_here", "_law_many", "_law_salt"] [])(j3:aQ P w K mg base dE kk g6 d6 ["_law_script", "_law_k"] (dR K LL.dU))(j4:mg "_law_cell" = some (.ref g6))(j5:PySem.W.keepIn K (.ref g6)=true)(j6:Binds K d6 ["_law_script", "_law_k"] [])(qV:aQ P w K mg base dE kk g7 d7 ["order", "k"] (dR K LL.eQ))(qW:mg "count_at" = some (.ref g7))(qX:PySem.W.keepIn K (.ref g7)=true)(qY:Binds K d7 ["order", "k"] [])(QF:aQ P w K mg base dE kk g8 d8 ["_law_script", "_law_at", "_law_salt"] (dR K LL.fY))(QG:mg "_law_any_k" = some (.ref g8))(QH:PySem.W.keepIn K (.ref g8)=true)(QI:Binds K d8 ["_law_script", "_law_at", "_law_salt"] [])(J4:aQ P w K mg base dE kk g9 d9 ["_law_one", "_law_other"] (dR K h8))(J5:mg "_law_beside" = some (.ref g9))(J6:PySem.W.keepIn K (.ref g9)=true)(J7:Binds K d9 ["_law_one", "_law_other"] [])(uA:aQ P w K mg base dE kk g10 d10 ["_law_script", "_law_k", "_law_most", "_law_salt"] (dR K LL.dS))(uB:mg "_law_drawn" = some (.ref g10))(uC:PySem.W.keepIn K (.ref g10)=true)(uD:Binds K d10 ["_law_script", "_law_k", "_law_most", "_law_salt"] [])(QJ:aQ P w K mg base dE kk g11 d11 ["_law_found", "_law_many"] (dR K LL.fK))(QK:mg "_law_tuple" = some (.ref g11))(QL:PySem.W.keepIn K (.ref g11)=true)(QM:Binds K d11 ["_law_found", "_law_many"] [])(D9:aQ P w K mg base dE kk g12 d12 ["order"] (dR K LL.eR))(EA:mg "polynomial" = some (.ref g12))(EB:PySem.W.keepIn K (.ref g12)=true)(EC:Binds K d12 ["order"] [])(bK:mg "len" = none)(W0:mg "min" = none)(aZ:mg "range" = none)(W2:mg "any" = none):aQ P w K mg base dE (kk+1) f fd ["_law_script"] (dR K rL):=by
 refine gS F WZ rfl rfl (λcdv A outer s H E hr=>?_);have nd:=WZ.nd;exact (bP (eT (i:=1) nd (bR uA hr uB uC uD (aF (x4 0) (aF i4 (aF i4 (aF i4 aM))))))
  (bP (eT (i:=2) nd (bR t6 hr t7 t8 t9 (aF (x4 1) aM)))
  (bP (eT (i:=3) nd (bR D9 hr EA EB EC (aF (x4 1) aM)))
  (bP (mQ (QT.pt (aC2 (GH (yM (bR lX hr j7 j8 j9 (aF (bR iJ hr iK iL iM (aF (x4 1) aM)) (aF (x4 2) aM))))) (aC1 (GH (yM (bR QJ hr QK QL QM (aF (x4 3) (aF (fV (iV bK (aF (x4 1) aM)) i4) aM))))))))
   (aY (eK b4))
   nA)
  (bP (mQ (yM (aKs rfl W2 (aF (kK.pe (kN (ls:=["_law_k"]) (fs:=["_law_row"]) (fr:=[3]) rfl (fT aZ (aFY rfl W0 (aF (x4 2) (aF (iV bK (aF (x4 3) aM)) aM)))) (λ_ _ _ _ _ _ nd=>gK (i:=0) nd (by decide)) (λ_ _ _ _ _ _=>lJ) (λ_ _ _ _ _ _=>(ne4 (sP (x4 1) (x4 0)) i4)))) aM)))
   (aY (eK b4))
   nA)
  (bP (eT (i:=4) nd (bR uA hr uB uC uD (aF (x4 0) (aF i4 (aF i4 (aF i4 aM))))))
  (bP (eT (i:=5) nd (bR uA hr uB uC uD (aF (x4 0) (aF i4 (aF i4 (aF i4 aM))))))
  (bP (eT (i:=6) nd (bR J4 hr J5 J6 J7 (aF (x4 4) (aF (x4 5) aM))))
  (bP (eT (i:=7) nd (bR QF hr QG QH QI (aF (x4 0) (aF i4 (aF i4 aM)))))
  (bP (mQ (aC0 (bR qV hr qW qX qY (aF (x4 6) (aF (x4 7) aM))) (qL (bR qV hr qW qX qY (aF (x4 4) (aF (x4 7) aM))) (bR qV hr qW qX qY (aF (x4 5) (aF (x4 7) aM)))))
   (aY (eK b4))
   nA)
  (bP (GK (i:=8) nd (pJ aM))
  (bP (sE rfl PassesOwn.never (kM (bR jF hr jG jH jI (aF (bR j3 hr j4 j5 j6 (aF (x4 0) (aF i4 aM))) (aF (iV bK (aF (x4 6) aM)) (aF i4 aM))))) (oD (i:=9) nd)
   (aY (BK (aKz (i:=8) (pI (x4 9) (fV (iV bK (aF (x4 8) aM)) i4)) (iV bK (aF (x4 8) aM))))))
  (bP (eT (i:=10) nd (fV (bR t6 hr t7 t8 t9 (aF (x4 4) aM)) (bR t6 hr t7 t8 t9 (aF (x4 5) aM))))
  (bP (mQ (GH (yM (bR lX hr j7 j8 j9 (aF (bR iJ hr iK iL iM (aF (x4 6) aM)) (aF (x4 10) aM)))))
   (aY (eK b4))
   nA)
  (aY (eK (OM (bR lX hr j7 j8 j9 (aF (bR iJ hr iK iL iM (aF (bR QB hr QC QD QE (aF (x4 6) (aF (x4 8) aM))) aM)) (aF (x4 10) aM))) (OL (bR lX hr j7 j8 j9 (aF (bR iJ hr iK iL iM (aF (x4 1) aM)) (aF (x4 2) aM)))))))))))))))))))))
end
theorem mU:∀ (us:List Value),us.length=1 -> ∃ a0,us=[a0]
 | [a0],_=>⟨a0,rfl⟩
theorem gQ:∀ (us:List Value),us.length=2 -> ∃ a0 a1,us=[a0,a1]
 | [a0,a1],_=>⟨a0,a1,rfl⟩
theorem kO:∀ (us:List Value),us.length=3 -> ∃ a0 a1 a2,us=[a0,a1,a2]
 | [a0,a1,a2],_=>⟨a0,a1,a2,rfl⟩
theorem MU:∀ (us:List Value),us.length=4 -> ∃ a0 a1 a2 a3,us=[a0,a1,a2,a3]
 | [a0,a1,a2,a3],_=>⟨a0,a1,a2,a3,rfl⟩
theorem all_mk{l:PySem.W.OpenLaw}{w:World}{K:PySem.W.Frag}{h:Heap}{mg:Str->Option Value}{fa f1 f2 f3 f4 f5 f6 f7 f8 f9 f10 f11 f12 f13 f14 f15 f16 f17 f18 f19 f20 f21 f22 f23 f24 f25 f26 f27 f28 f29:Addr}(X:K.In h)(G:h.Ns mainGlobals mg)(hfa:mg "law" = some (.ref fa))
  {od1 an1 od2 an2 od3 an3 od4 an4 od5 an5 od6 an6 od7 an7 od8 an8 od9 an9 aLI aLJ aLK aLL aLM aLN aLO aLP aLQ aLR aLS aLT aLU aLV aLW aLX aLY aLZ aL0 aL1 aL2 aL3 aL4 aL5 aL6 aL7 aL8 aL9 aLa aLb aLc aLd aLe aLf aLg aLh aLi aLj aLk aFx:Option Addr} {sl1 sl2 sl3 sl4 sl5 sl6 sl7 sl8 sl9 aLl aLm aLn aLo aLp aLq aLr aLs aLt aLu aLv aLw aLx aLy aLz aMA aMB aMC aMD aME:Array (Option Value)}
  {oc1 kV1 dc1 pm1 cd1 ct1 oc2 kV2 dc2 pm2 cd2 ct2 oc3 kV3 dc3 pm3 cd3 ct3 oc4 kV4 dc4 pm4 cd4 ct4 oc5 kV5 dc5 pm5 cd5 ct5 oc6 kV6 dc6 pm6 cd6 ct6 oc7 kV7 dc7 pm7 cd7 ct7 oc8 kV8 dc8 pm8 cd8 ct8 oc9 kV9 dc9 pm9 cd9 ct9 aMF aMG aMH aMI aFy aMJ aMK aML aMM aMN aFz aMO aMP aMQ aMR aMS aGA aMT aMU aMV aMW aMX aGB aMY aMZ aM0 aM1 aM2 aGC aM3 aM4 aM5 aM6 aM7 aGD aM8 aM9 aMa aMb aMc aGE aMd aMe aMf aMg aMh aGF aMi aMj aMk aMl aMm aGG aMn aMo aMp aMq aMr aGH aMs aMt aMu aMv aMw aGI aMx aMy aMz aNA aNB aGJ aNC aND aNE aNF aNG aGK aNH aNI aNJ aNK aNL aGL aNM aNN aNO aNP aNQ aGM aNR aNS aNT aNU aNV aGN aNW aNX aNY aNZ aN0 aGO aN1 aN2 aN3 aN4 aN5 aGP aN6 aN7 aN8 aN9 aNa aGQ aNb aNc aGR aGS aGT aCo aGU:Value}
  (a1:PySem.W.nsIn K mainGlobals "ties_of" = some (some (.ref f1))) (l1:K.lookup f1=some ⟨oc1,od1,.func (PySem.W.fnOf "ties_of" "ties_of" (bE jB) (aX jB) (aH jB) .none kV1 dc1 pm1 an1 cd1 ct1),sl1⟩) (c1:PySem.W.codeIn K cd1 "ties_of" = true) (k1:PySem.W.keepIn K (.ref f1)=true)
  (a2:PySem.W.nsIn K mainGlobals "ready_things" = some (some (.ref f2))) (l2:K.lookup f2=some ⟨oc2,od2,.func (PySem.W.fnOf "ready_things" "ready_things" (bE eL) (aX eL) (aH eL) .none kV2 dc2 pm2 an2 cd2 ct2),sl2⟩) (c2:PySem.W.codeIn K cd2 "ready_things" = true) (k2:PySem.W.keepIn K (.ref f2)=true)
  (a3:PySem.W.nsIn K mainGlobals "joined" = some (some (.ref f3))) (l3:K.lookup f3=some ⟨oc3,od3,.func (PySem.W.fnOf "joined" "joined" (bE lQ) (aX lQ) (aH lQ) .none kV3 dc3 pm3 an3 cd3 ct3),sl3⟩) (c3:PySem.W.codeIn K cd3 "joined" = true) (k3:PySem.W.keepIn K (.ref f3)=true)
  (a4:PySem.W.nsIn K mainGlobals "added" = some (some (.ref f4))) (l4:K.lookup f4=some ⟨oc4,od4,.func (PySem.W.fnOf "added" "added" (bE pC) (aX pC) (aH pC) .none kV4 dc4 pm4 an4 cd4 ct4),sl4⟩) (c4:PySem.W.codeIn K cd4 "added" = true) (k4:PySem.W.keepIn K (.ref f4)=true)
  (a5:PySem.W.nsIn K mainGlobals "one_descent_more" = some (some (.ref f5))) (l5:K.lookup f5=some ⟨oc5,od5,.func (PySem.W.fnOf "one_descent_more" "one_descent_more" (bE dC) (aX dC) (aH dC) .none kV5 dc5 pm5 an5 cd5 ct5),sl5⟩) (c5:PySem.W.codeIn K cd5 "one_descent_more" = true) (k5:PySem.W.keepIn K (.ref f5)=true)
  (a6:PySem.W.nsIn K mainGlobals "find_shares" = some (some (.ref f6))) (l6:K.lookup f6=some ⟨oc6,od6,.func (PySem.W.fnOf "find_shares" "find_shares" (bE eB) (aX eB) (aH eB) .none kV6 dc6 pm6 an6 cd6 ct6),sl6⟩) (c6:PySem.W.codeIn K cd6 "find_shares" = true) (k6:PySem.W.keepIn K (.ref f6)=true)
  (a7:PySem.W.nsIn K mainGlobals "shares_on" = some (some (.ref f7))) (l7:K.lookup f7=some ⟨oc7,od7,.func (PySem.W.fnOf "shares_on" "shares_on" (bE gC) (aX gC) (aH gC) .none kV7 dc7 pm7 an7 cd7 ct7),sl7⟩) (c7:PySem.W.codeIn K cd7 "shares_on" = true) (k7:PySem.W.keepIn K (.ref f7)=true)
  (a8:PySem.W.nsIn K mainGlobals "shares_by_descents" = some (some (.ref f8))) (l8:K.lookup f8=some ⟨oc8,od8,.func (PySem.W.fnOf "shares_by_descents" "shares_by_descents" (bE bZ) (aX bZ) (aH bZ) .none kV8 dc8 pm8 an8 cd8 ct8),sl8⟩) (c8:PySem.W.codeIn K cd8 "shares_by_descents" = true) (k8:PySem.W.keepIn K (.ref f8)=true)
  (a9:PySem.W.nsIn K mainGlobals "chosen" = some (some (.ref f9))) (l9:K.lookup f9=some ⟨oc9,od9,.func (PySem.W.fnOf "chosen" "chosen" (bE lR) (aX lR) (aH lR) .none kV9 dc9 pm9 an9 cd9 ct9),sl9⟩) (c9:PySem.W.codeIn K cd9 "chosen" = true) (k9:PySem.W.keepIn K (.ref f9)=true)
  (a10:PySem.W.nsIn K mainGlobals "sum_over_descents" = some (some (.ref f10))) (l10:K.lookup f10=some ⟨aMF,aLI,.func (PySem.W.fnOf "sum_over_descents" "sum_over_descents" (bE cZ) (aX cZ) (aH cZ) .none aMG aMH aMI aLJ aFy aMJ),aLl⟩) (c10:PySem.W.codeIn K aFy "sum_over_descents" = true) (k10:PySem.W.keepIn K (.ref f10)=true)
  (a11:PySem.W.nsIn K mainGlobals "count_at" = some (some (.ref f11))) (l11:K.lookup f11=some ⟨aMK,aLK,.func (PySem.W.fnOf "count_at" "count_at" (bE iA) (aX iA) (aH iA) .none aML aMM aMN aLL aFz aMO),aLm⟩) (c11:PySem.W.codeIn K aFz "count_at" = true) (k11:PySem.W.keepIn K (.ref f11)=true)
  (a12:PySem.W.nsIn K mainGlobals "times_k_and" = some (some (.ref f12))) (l12:K.lookup f12=some ⟨aMP,aLM,.func (PySem.W.fnOf "times_k_and" "times_k_and" (bE eX) (aX eX) (aH eX) .none aMQ aMR aMS aLN aGA aMT),aLn⟩) (c12:PySem.W.codeIn K aGA "times_k_and" = true) (k12:PySem.W.keepIn K (.ref f12)=true)
  (a13:PySem.W.nsIn K mainGlobals "product_of_steps" = some (some (.ref f13))) (l13:K.lookup f13=some ⟨aMU,aLO,.func (PySem.W.fnOf "product_of_steps" "product_of_steps" (bE dD) (aX dD) (aH dD) .none aMV aMW aMX aLP aGB aMY),aLo⟩) (c13:PySem.W.codeIn K aGB "product_of_steps" = true) (k13:PySem.W.keepIn K (.ref f13)=true)
  (a14:PySem.W.nsIn K mainGlobals "polynomial" = some (some (.ref f14))) (l14:K.lookup f14=some ⟨aMZ,aLQ,.func (PySem.W.fnOf "polynomial" "polynomial" (bE fL) (aX fL) (aH fL) .none aM0 aM1 aM2 aLR aGC aM3),aLp⟩) (c14:PySem.W.codeIn K aGC "polynomial" = true) (k14:PySem.W.keepIn K (.ref f14)=true)
  (a15:PySem.W.nsIn K mainGlobals "merged" = some (some (.ref f15))) (l15:K.lookup f15=some ⟨aM4,aLS,.func (PySem.W.fnOf "merged" "merged" (bE lU) (aX lU) (aH lU) .none aM5 aM6 aM7 aLT aGD aM8),aLq⟩) (c15:PySem.W.codeIn K aGD "merged" = true) (k15:PySem.W.keepIn K (.ref f15)=true)
  (a16:PySem.W.nsIn K mainGlobals "pieces_many" = some (some (.ref f16))) (l16:K.lookup f16=some ⟨aM9,aLU,.func (PySem.W.fnOf "pieces_many" "pieces_many" (bE eZ) (aX eZ) (aH eZ) .none aMa aMb aMc aLV aGE aMd),aLr⟩) (c16:PySem.W.codeIn K aGE "pieces_many" = true) (k16:PySem.W.keepIn K (.ref f16)=true)
  (a17:PySem.W.nsIn K mainGlobals "_law_mixed" = some (some (.ref f17))) (l17:K.lookup f17=some ⟨aMe,aLW,.func (PySem.W.fnOf "_law_mixed" "_law_mixed" (bE jC) (aX jC) (aH jC) .none aMf aMg aMh aLX aGF aMi),aLs⟩) (c17:PySem.W.codeIn K aGF "_law_mixed" = true) (k17:PySem.W.keepIn K (.ref f17)=true)
  (a18:PySem.W.nsIn K mainGlobals "_law_draws" = some (some (.ref f18))) (l18:K.lookup f18=some ⟨aMj,aLY,.func (PySem.W.fnOf "_law_draws" "_law_draws" (bE jD) (aX jD) (aH jD) .none aMk aMl aMm aLZ aGG aMn),aLt⟩) (c18:PySem.W.codeIn K aGG "_law_draws" = true) (k18:PySem.W.keepIn K (.ref f18)=true)
  (a19:PySem.W.nsIn K mainGlobals "_law_cell" = some (some (.ref f19))) (l19:K.lookup f19=some ⟨aMo,aL0,.func (PySem.W.fnOf "_law_cell" "_law_cell" (bE lV) (aX lV) (aH lV) .none aMp aMq aMr aL1 aGH aMs),aLu⟩) (c19:PySem.W.codeIn K aGH "_law_cell" = true) (k19:PySem.W.keepIn K (.ref f19)=true)
  (a20:PySem.W.nsIn K mainGlobals "_law_order" = some (some (.ref f20))) (l20:K.lookup f20=some ⟨aMt,aL2,.func (PySem.W.fnOf "_law_order" "_law_order" (bE iB) (aX iB) (aH iB) .none aMu aMv aMw aL3 aGI aMx),aLv⟩) (c20:PySem.W.codeIn K aGI "_law_order" = true) (k20:PySem.W.keepIn K (.ref f20)=true)
  (a21:PySem.W.nsIn K mainGlobals "_law_drawn" = some (some (.ref f21))) (l21:K.lookup f21=some ⟨aMy,aL4,.func (PySem.W.fnOf "_law_drawn" "_law_drawn" (bE jE) (aX jE) (aH jE) .none aMz aNA aNB aL5 aGJ aNC),aLw⟩) (c21:PySem.W.codeIn K aGJ "_law_drawn" = true) (k21:PySem.W.keepIn K (.ref f21)=true)
  (a22:PySem.W.nsIn K mainGlobals "_law_same" = some (some (.ref f22))) (l22:K.lookup f22=some ⟨aND,aL6,.func (PySem.W.fnOf "_law_same" "_law_same" (bE lW) (aX lW) (aH lW) .none aNE aNF aNG aL7 aGK aNH),aLx⟩) (c22:PySem.W.codeIn K aGK "_law_same" = true) (k22:PySem.W.keepIn K (.ref f22)=true)
  (a23:PySem.W.nsIn K mainGlobals "_law_tuple" = some (some (.ref f23))) (l23:K.lookup f23=some ⟨aNI,aL8,.func (PySem.W.fnOf "_law_tuple" "_law_tuple" (bE jJ) (aX jJ) (aH jJ) .none aNJ aNK aNL aL9 aGL aNM),aLy⟩) (c23:PySem.W.codeIn K aGL "_law_tuple" = true) (k23:PySem.W.keepIn K (.ref f23)=true)
  (a24:PySem.W.nsIn K mainGlobals "_law_great" = some (some (.ref f24))) (l24:K.lookup f24=some ⟨aNN,aLa,.func (PySem.W.fnOf "_law_great" "_law_great" (bE jK) (aX jK) (aH jK) .none aNO aNP aNQ aLb aGM aNR),aLz⟩) (c24:PySem.W.codeIn K aGM "_law_great" = true) (k24:PySem.W.keepIn K (.ref f24)=true)
  (a25:PySem.W.nsIn K mainGlobals "_law_any_k" = some (some (.ref f25))) (l25:K.lookup f25=some ⟨aNS,aLc,.func (PySem.W.fnOf "_law_any_k" "_law_any_k" (bE jL) (aX jL) (aH jL) .none aNT aNU aNV aLd aGN aNW),aMA⟩) (c25:PySem.W.codeIn K aGN "_law_any_k" = true) (k25:PySem.W.keepIn K (.ref f25)=true)
  (a26:PySem.W.nsIn K mainGlobals "_law_flood" = some (some (.ref f26))) (l26:K.lookup f26=some ⟨aNX,aLe,.func (PySem.W.fnOf "_law_flood" "_law_flood" (bE jM) (aX jM) (aH jM) .none aNY aNZ aN0 aLf aGO aN1),aMB⟩) (c26:PySem.W.codeIn K aGO "_law_flood" = true) (k26:PySem.W.keepIn K (.ref f26)=true)
  (a27:PySem.W.nsIn K mainGlobals "_law_beside" = some (some (.ref f27))) (l27:K.lookup f27=some ⟨aN2,aLg,.func (PySem.W.fnOf "_law_beside" "_law_beside" (bE iC) (aX iC) (aH iC) .none aN3 aN4 aN5 aLh aGP aN6),aMC⟩) (c27:PySem.W.codeIn K aGP "_law_beside" = true) (k27:PySem.W.keepIn K (.ref f27)=true)
  (a28:PySem.W.nsIn K mainGlobals "_law_named" = some (some (.ref f28))) (l28:K.lookup f28=some ⟨aN7,aLi,.func (PySem.W.fnOf "_law_named" "_law_named" (bE jN) (aX jN) (aH jN) .none aN8 aN9 aNa aLj aGQ aNb),aMD⟩) (c28:PySem.W.codeIn K aGQ "_law_named" = true) (k28:PySem.W.keepIn K (.ref f28)=true)
  (a29:PySem.W.nsIn K mainGlobals "law" = some (some (.ref f29))) (l29:K.lookup f29=some ⟨aNc,aLk,.func (PySem.W.fnOf "law" "law" (bE sO) (aX sO) (aH sO) .none aGR aGS aGT aFx aCo aGU),aME⟩) (c29:PySem.W.codeIn K aCo "law" = true) (k29:PySem.W.keepIn K (.ref f29)=true)
  (z1:PySem.W.nsIn K mainGlobals "sorted" = some none) (z2:PySem.W.nsIn K mainGlobals "tuple" = some none) (z3:PySem.W.nsIn K mainGlobals "enumerate" = some none) (z4:PySem.W.nsIn K mainGlobals "all" = some none) (z5:PySem.W.nsIn K mainGlobals "len" = some none) (z6:PySem.W.nsIn K mainGlobals "range" = some none) (z7:PySem.W.nsIn K mainGlobals "zip" = some none) (z8:PySem.W.nsIn K mainGlobals "max" = some none) (z9:PySem.W.nsIn K mainGlobals "sum" = some none) (z10:PySem.W.nsIn K mainGlobals "set" = some none) (z11:PySem.W.nsIn K mainGlobals "list" = some none) (z12:PySem.W.nsIn K mainGlobals "isinstance" = some none) (z13:PySem.W.nsIn K mainGlobals "str" = some none) (z14:PySem.W.nsIn K mainGlobals "int" = some none) (z15:PySem.W.nsIn K mainGlobals "bool" = some none) (z16:PySem.W.nsIn K mainGlobals "min" = some none) (z17:PySem.W.nsIn K mainGlobals "any" = some none) :
  ∃ fd:FuncData,(∀ (s:Shared) (v:Value),BindsTo s fd ⟨[v],[]⟩ [("_law_script",v)]) /\ ∀ base:Heap,K.In base->base.Ns mainGlobals mg->aQ l.prog w K mg base dE 19 fa fd ["_law_script"] (dR K rL):=by
 have e:=hfa.symm.trans (PySem.W.mg_of X G a29);cases e;have F1:=cV (st:=jB) l1 c1 k1;have F2:=cV (st:=eL) l2 c2 k2;have F3:=cV (st:=lQ) l3 c3 k3;have F4:=cV (st:=pC) l4 c4 k4;have F5:=cV (st:=dC) l5 c5 k5;have F6:=cV (st:=eB) l6 c6 k6;have F7:=cV (st:=gC) l7 c7 k7;have F8:=cV (st:=bZ) l8 c8 k8;have F9:=cV (st:=lR) l9 c9 k9;have F10:=cV (st:=cZ) l10 c10 k10;have F11:=cV (st:=iA) l11 c11 k11;have F12:=cV (st:=eX) l12 c12 k12;have F13:=cV (st:=dD) l13 c13 k13;have F14:=cV (st:=fL) l14 c14 k14;have F15:=cV (st:=lU) l15 c15 k15;have F16:=cV (st:=eZ) l16 c16 k16;have F17:=cV (st:=jC) l17 c17 k17;have F18:=cV (st:=jD) l18 c18 k18;have F19:=cV (st:=lV) l19 c19 k19;have F20:=cV (st:=iB) l20 c20 k20;have F21:=cV (st:=jE) l21 c21 k21;have F22:=cV (st:=lW) l22 c22 k22;have F23:=cV (st:=jJ) l23 c23 k23;have F24:=cV (st:=jK) l24 c24 k24;have F25:=cV (st:=jL) l25 c25 k25;have F26:=cV (st:=jM) l26 c26 k26;have F27:=cV (st:=iC) l27 c27 k27;have F28:=cV (st:=jN) l28 c28 k28;have F29:=cV (st:=sO) l29 c29 k29;have b1:=F1.binds (ps:=["order"]) λ_ _ _ _ _ _ us hl=>by obtain ⟨_,rfl⟩:=mU us hl; rfl
 have g1:=PySem.W.mg_of X G a1;have b2:=F2.binds (ps:=["order", "ahead"]) λ_ _ _ _ _ _ us hl=>by obtain ⟨_,_,rfl⟩:=gQ us hl; rfl
 have g2:=PySem.W.mg_of X G a2;have b3:=F3.binds (ps:=["ahead", "thing"]) λ_ _ _ _ _ _ us hl=>by obtain ⟨_,_,rfl⟩:=gQ us hl; rfl
 have g3:=PySem.W.mg_of X G a3;have b4:=F4.binds (ps:=["one", "other"]) λ_ _ _ _ _ _ us hl=>by obtain ⟨_,_,rfl⟩:=gQ us hl; rfl
 have g4:=PySem.W.mg_of X G a4;have b5:=F5.binds (ps:=["shares"]) λ_ _ _ _ _ _ us hl=>by obtain ⟨_,rfl⟩:=mU us hl; rfl
 have g5:=PySem.W.mg_of X G a5;have b6:=F6.binds (ps:=["order", "ahead", "last", "shares"]) λ_ _ _ _ _ _ us hl=>by obtain ⟨_,_,_,_,rfl⟩:=MU us hl; rfl
 have g6:=PySem.W.mg_of X G a6;have b7:=F7.binds (ps:=["order"]) λ_ _ _ _ _ _ us hl=>by obtain ⟨_,rfl⟩:=mU us hl; rfl
 have g7:=PySem.W.mg_of X G a7;have b8:=F8.binds (ps:=["order"]) λ_ _ _ _ _ _ us hl=>by obtain ⟨_,rfl⟩:=mU us hl; rfl
 have g8:=PySem.W.mg_of X G a8;have b9:=F9.binds (ps:=["x", "m"]) λ_ _ _ _ _ _ us hl=>by obtain ⟨_,_,rfl⟩:=gQ us hl; rfl
 have g9:=PySem.W.mg_of X G a9;have b10:=F10.binds (ps:=["shares", "n", "k"]) λ_ _ _ _ _ _ us hl=>by obtain ⟨_,_,_,rfl⟩:=kO us hl; rfl
 have g10:=PySem.W.mg_of X G a10;have b11:=F11.binds (ps:=["order", "k"]) λ_ _ _ _ _ _ us hl=>by obtain ⟨_,_,rfl⟩:=gQ us hl; rfl
 have g11:=PySem.W.mg_of X G a11;have b12:=F12.binds (ps:=["factors", "shift"]) λ_ _ _ _ _ _ us hl=>by obtain ⟨_,_,rfl⟩:=gQ us hl; rfl
 have g12:=PySem.W.mg_of X G a12;have b13:=F13.binds (ps:=["share", "shift", "n"]) λ_ _ _ _ _ _ us hl=>by obtain ⟨_,_,_,rfl⟩:=kO us hl; rfl
 have g13:=PySem.W.mg_of X G a13;have b14:=F14.binds (ps:=["order"]) λ_ _ _ _ _ _ us hl=>by obtain ⟨_,rfl⟩:=mU us hl; rfl
 have g14:=PySem.W.mg_of X G a14;have b15:=F15.binds (ps:=["pieces", "one", "other"]) λ_ _ _ _ _ _ us hl=>by obtain ⟨_,_,_,rfl⟩:=kO us hl; rfl
 have g15:=PySem.W.mg_of X G a15;have b16:=F16.binds (ps:=["order"]) λ_ _ _ _ _ _ us hl=>by obtain ⟨_,rfl⟩:=mU us hl; rfl
 have g16:=PySem.W.mg_of X G a16;have b17:=F17.binds (ps:=["_law_cell_here", "_law_k", "_law_salt"]) λ_ _ _ _ _ _ us hl=>by obtain ⟨_,_,_,rfl⟩:=kO us hl; rfl
 have g17:=PySem.W.mg_of X G a17;have b18:=F18.binds (ps:=["_law_cell_here", "_law_many", "_law_salt"]) λ_ _ _ _ _ _ us hl=>by obtain ⟨_,_,_,rfl⟩:=kO us hl; rfl
 have g18:=PySem.W.mg_of X G a18;have b19:=F19.binds (ps:=["_law_script", "_law_k"]) λ_ _ _ _ _ _ us hl=>by obtain ⟨_,_,rfl⟩:=gQ us hl; rfl
 have g19:=PySem.W.mg_of X G a19;have b20:=F20.binds (ps:=["_law_draws_here", "_law_n", "_law_thick"]) λ_ _ _ _ _ _ us hl=>by obtain ⟨_,_,_,rfl⟩:=kO us hl; rfl
 have g20:=PySem.W.mg_of X G a20;have b21:=F21.binds (ps:=["_law_script", "_law_k", "_law_most", "_law_salt"]) λ_ _ _ _ _ _ us hl=>by obtain ⟨_,_,_,_,rfl⟩:=MU us hl; rfl
 have g21:=PySem.W.mg_of X G a21;have b22:=F22.binds (ps:=["_law_found", "_law_due"]) λ_ _ _ _ _ _ us hl=>by obtain ⟨_,_,rfl⟩:=gQ us hl; rfl
 have g22:=PySem.W.mg_of X G a22;have b23:=F23.binds (ps:=["_law_found", "_law_many"]) λ_ _ _ _ _ _ us hl=>by obtain ⟨_,_,rfl⟩:=gQ us hl; rfl
 have g23:=PySem.W.mg_of X G a23;have b24:=F24.binds (ps:=["_law_cell_here", "_law_most", "_law_salt"]) λ_ _ _ _ _ _ us hl=>by obtain ⟨_,_,_,rfl⟩:=kO us hl; rfl
 have g24:=PySem.W.mg_of X G a24;have b25:=F25.binds (ps:=["_law_script", "_law_at", "_law_salt"]) λ_ _ _ _ _ _ us hl=>by obtain ⟨_,_,_,rfl⟩:=kO us hl; rfl
 have g25:=PySem.W.mg_of X G a25;have b26:=F26.binds (ps:=["_law_order_here"]) λ_ _ _ _ _ _ us hl=>by obtain ⟨_,rfl⟩:=mU us hl; rfl
 have g26:=PySem.W.mg_of X G a26;have b27:=F27.binds (ps:=["_law_one", "_law_other"]) λ_ _ _ _ _ _ us hl=>by obtain ⟨_,_,rfl⟩:=gQ us hl; rfl
 have g27:=PySem.W.mg_of X G a27;have b28:=F28.binds (ps:=["_law_order_here", "_law_word"]) λ_ _ _ _ _ _ us hl=>by obtain ⟨_,_,rfl⟩:=gQ us hl; rfl
 have g28:=PySem.W.mg_of X G a28;have eV:=PySem.W.mg_none_of X G z1;have bJ:=PySem.W.mg_none_of X G z2;have dY:=PySem.W.mg_none_of X G z3;have pV:=PySem.W.mg_none_of X G z4;have bK:=PySem.W.mg_none_of X G z5;have aZ:=PySem.W.mg_none_of X G z6;have BW:=PySem.W.mg_none_of X G z7;have MS:=PySem.W.mg_none_of X G z8;have WQ:=PySem.W.mg_none_of X G z9;have WY:=PySem.W.mg_none_of X G z10;have mS:=PySem.W.mg_none_of X G z11;have bH:=PySem.W.mg_none_of X G z12;have MT:=PySem.W.mg_none_of X G z13;have uW:=PySem.W.mg_none_of X G z14;have mT:=PySem.W.mg_none_of X G z15;have W0:=PySem.W.mg_none_of X G z16;have W2:=PySem.W.mg_none_of X G z17;refine ⟨PySem.W.fnOf "law" "law" (bE sO) (aX sO) (aH sO) .none aGR aGS aGT aFx aCo aGU,λs v=>.of_eq rfl,λbase _ _=>?_⟩;have o1:aQ l.prog w K mg base dE 4 f1 _ _ (dR K LL.eW):=JT (kk:=3) F1 eV bJ dY;have o2:aQ l.prog w K mg base dE 4 f2 _ _ (dR K LL.dQ):=vI (kk:=3) F2 pV bK aZ;have o3:aQ l.prog w K mg base dE 4 f3 _ _ (dR K LL.fD):=PM (kk:=3) F3 eV bJ;have o4:aQ l.prog w K mg base dE 4 f4 _ _ (dR K LL.fS):=WJ (kk:=3) F4 BW;have o5:aQ l.prog w K mg base dE 4 f5 _ _ (dR K LL.bN):=pK (kk:=3) F5 ;have o6:aQ l.prog w K mg base dE 15 f6 _ _ (Z6 K (LL.bB 11)):=oH (kk:=4) F6 (o2.mono (by decide)) g2 k2 b2 (o4.mono (by decide)) g4 k4 b4 (o5.mono (by decide)) g5 k5 b5 (o3.mono (by decide)) g3 k3 b3 g6 k6 b6 bK MS 11;have o7:aQ l.prog w K mg base dE 16 f7 _ _ (dR K LL.fX):=D8 (kk:=15) F7 (o6.mono (by decide)) g6 k6 b6;have o8:aQ l.prog w K mg base dE 17 f8 _ _ (dR K LL.aU):=nB (kk:=16) F8 (o7.mono (by decide)) g7 k7 b7 bJ;have o9:aQ l.prog w K mg base dE 4 f9 _ _ (dR K LL.lE):=PN (kk:=3) F9 aZ;have o10:aQ l.prog w K mg base dE 5 f10 _ _ (dR K LL.cC):=oM (kk:=4) F10 (o9.mono (by decide)) g9 k9 b9 dY WQ;have o11:aQ l.prog w K mg base dE 18 f11 _ _ (dR K LL.eQ):=G6 (kk:=17) F11 (o10.mono (by decide)) g10 k10 b10 (o8.mono (by decide)) g8 k8 b8 bK;have o12:aQ l.prog w K mg base dE 4 f12 _ _ (dR K LL.eA):=yZ (kk:=3) F12 BW;have o13:aQ l.prog w K mg base dE 5 f13 _ _ (dR K LL.bY):=pP (kk:=4) F13 (o12.mono (by decide)) g12 k12 b12 aZ;have o14:aQ l.prog w K mg base dE 18 f14 _ _ (dR K LL.eR):=AA (kk:=17) F14 (o8.mono (by decide)) g8 k8 b8 (o4.mono (by decide)) g4 k4 b4 (o13.mono (by decide)) g13 k13 b13 bJ dY bK;have o15:aQ l.prog w K mg base dE 4 f15 _ _ (dR K lL):=PQ (kk:=3) F15 ;have o16:aQ l.prog w K mg base dE 5 f16 _ _ (dR K cB):=y1 (kk:=4) F16 (o1.mono (by decide)) g1 k1 b1 (o15.mono (by decide)) g15 k15 b15 bK WY mS aZ;have o17:aQ l.prog w K mg base dE 4 f17 _ _ (dR K LL.eG):=JU (kk:=3) F17 ;have o18:aQ l.prog w K mg base dE 5 f18 _ _ (dR K LL.dM):=JV (kk:=4) F18 (o17.mono (by decide)) g17 k17 b17 aZ;have o19:aQ l.prog w K mg base dE 4 f19 _ _ (dR K LL.dU):=PZ (kk:=3) F19 bK;have o20:aQ l.prog w K mg base dE 4 f20 _ _ (dR K LL.i7):=JW (kk:=3) F20 aZ eV bJ bK mS;have o21:aQ l.prog w K mg base dE 6 f21 _ _ (dR K LL.dS):=JX (kk:=5) F21 (o20.mono (by decide)) g20 k20 b20 (o18.mono (by decide)) g18 k18 b18 (o19.mono (by decide)) g19 k19 b19;have o22:aQ l.prog w K mg base dE 9 f22 _ _ (dR K (LL.bI 6)):=B1 (kk:=3) F22 g22 k22 b22 bH MT uW mT bJ bK aZ pV 6;have o23:aQ l.prog w K mg base dE 4 f23 _ _ (dR K LL.fK):=JY (kk:=3) F23 bH mT uW pV bK bJ;have o24:aQ l.prog w K mg base dE 5 f24 _ _ (dR K LL.i8):=JZ (kk:=4) F24 (o17.mono (by decide)) g17 k17 b17 aZ;have o25:aQ l.prog w K mg base dE 6 f25 _ _ (dR K LL.fY):=J0 (kk:=5) F25 (o24.mono (by decide)) g24 k24 b24 (o19.mono (by decide)) g19 k19 b19 (o18.mono (by decide)) g18 k18 b18;have o26:aQ l.prog w K mg base dE 4 f26 _ _ (dR K gB):=J1 (kk:=3) F26 bK mS aZ;have o27:aQ l.prog w K mg base dE 4 f27 _ _ (dR K h8):=G7 (kk:=3) F27 bJ bK;have o28:aQ l.prog w K mg base dE 4 f28 _ _ (dR K h9):=J3 (kk:=3) F28 bJ bK aZ eV;exact aCn (kk:=18) F29 (o22.mono (by decide)) g22 k22 b22 (o16.mono (by decide)) g16 k16 b16 (o28.mono (by decide)) g28 k28 b28 (o26.mono (by decide)) g26 k26 b26 (o18.mono (by decide)) g18 k18 b18 (o19.mono (by decide)) g19 k19 b19 (o11.mono (by decide)) g11 k11 b11 (o25.mono (by decide)) g25 k25 b25 (o27.mono (by decide)) g27 k27 b27 (o21.mono (by decide)) g21 k21 b21 (o23.mono (by decide)) g23 k23 b23 (o14.mono (by decide)) g14 k14 b14 bK W0 aZ W2
theorem aCp{K:PySem.W.Frag}{H:Hp}{a:Addr}{ns:List Int}(o:Only H)(h:eO K H a (ns.map V.int)):Scr K H a ns:=by
 rcases h with h | h
 .rcases h with h | ⟨b,h⟩
  .rcases o a with z | ⟨_,_,z⟩ | ⟨_,z⟩<;>rw [z] at h<;>cases h
  .exact .inl ⟨b,h⟩
 .exact .inr (.inr h)
theorem walk{l:PySem.W.OpenLaw}{q:Program}{loose:List Str}{XP:(Str->Option Value)->Heap->Prop}{YP:World->Heap->Prop}{d:DefRec}{K:Params->PySem.W.Frag}(hn:l.most=some 63)(hdf:d.params.defaults=[])
  (hY:∀ (w:World) (h:Heap),YP w h->(K w.params).In h) (hTb:∀ w:World,TabsOk (K w.params) q) (hnt:∀ w:World,PySem.W.noTabs (K w.params)=true)
  (F:∀ (w:World) (mg:Str->Option Value) (fa:Addr) (h:Heap),(K w.params).In h->h.Ns mainGlobals mg->mg d.name=some (.ref fa) ->
   ∃ fd:FuncData,(∀ (s:Shared) (u:Value),BindsTo s fd ⟨[u],[]⟩ [("_law_script",u)]) /\ ∀ base:Heap,(K w.params).In base->base.Ns mainGlobals mg->aQ l.prog w (K w.params) mg base dE 19 fa fd ["_law_script"] (dR (K w.params) rL)) :
  PySem.W.WalkO q loose XP YP l.row.toRowW d [] (λf vs=>PySem.call f vs) :=
 L2.YV (n:=63) (k:=19) (x := "_law_script") (CX:=λ_=>dE) (sp:=λw=>dR (K w.params) rL) hn (by decide) hdf ⟨rfl,by decide,by decide⟩ hY hTb hnt F
  (λ_ H a ns hl o hS=>⟨λa=>H a=none,[.kZ ns],λd=>d=.bl true,λ_ h=>h,⟨_,_,rfl,⟨a,rfl,aCp o hS⟩,rfl⟩,⟨_,VM ns hl,rfl⟩,λv H' d _ hd e=>by subst e; exact hd⟩) λ_ _ _ _ _ z=>z
end K26
open PySem PySem.W PyProof.Rows
end
noncomputable def PySem.W.Fast.tw15828422641800740632 := 0
noncomputable def PySem.W.Fast.tw6624077067237623075 := 0
noncomputable def PySem.W.Fast.tw3420243220248620128 := 0
noncomputable def PySem.W.Fast.tw13758583299233583102 := 0
noncomputable def PySem.W.Fast.tw8029871385192022559 := 0
noncomputable def PySem.W.Fast.tw4671721244293322714 := 0
noncomputable def PySem.W.Fast.tw2969805062514693730 := 0
set_option maxRecDepth 100000 in
set_option maxHeartbeats 0 in
theorem PySem.Challenge.cw_risecount_k26_pieces_holds : PySem.Challenge.rw_risecount_k26_pieces.Holds := by
 w_on; o_law; k_head; (case hw=>w_witness2)
 k_fill
 refine K26.walk (l := PySem.Challenge.rw_risecount_k26_pieces) rfl rfl (fun w h Y => PySem.W.kIn_of Y) ?hTbs ?hNtb ?F
 case hTbs =>
  intro w
  refine' L4.tabs_ok (L4.PD ?t1 ?t2 ?t3 ?t4 ?t5) ?nd ?rc
  (case t1=>(refine' L4.oF ?p1; (case p1=>k_is)))
  (case t2=>(refine' L4.oF ?p1; (case p1=>k_is)))
  (case t3=>(refine' L4.oF ?p1; (case p1=>k_is)))
  (case t4=>(refine' L4.oF ?p1; (case p1=>k_is)))
  (case t5=>(refine' L4.oF ?p1; (case p1=>k_is)))
  (case nd=>decide)
  (case rc=>(intro t ht; cases ht))
 case hNtb =>
  intro w
  kernel_rfl
 case F =>
  intro w mg fa h KX G hmg
  refine' K26.all_mk KX G hmg ?a1 ?l1 ?c1 ?k1 ?a2 ?l2 ?c2 ?k2 ?a3 ?l3 ?c3 ?k3 ?a4 ?l4 ?c4 ?k4 ?a5 ?l5 ?c5 ?k5 ?a6 ?l6 ?c6 ?k6 ?a7 ?l7 ?c7 ?k7 ?a8 ?l8 ?c8 ?k8 ?a9 ?l9 ?c9 ?k9 ?a10 ?l10 ?c10 ?k10 ?a11 ?l11 ?c11 ?k11 ?a12 ?l12 ?c12 ?k12 ?a13 ?l13 ?c13 ?k13 ?a14 ?l14 ?c14 ?k14 ?a15 ?l15 ?c15 ?k15 ?a16 ?l16 ?c16 ?k16 ?a17 ?l17 ?c17 ?k17 ?a18 ?l18 ?c18 ?k18 ?a19 ?l19 ?c19 ?k19 ?a20 ?l20 ?c20 ?k20 ?a21 ?l21 ?c21 ?k21 ?a22 ?l22 ?c22 ?k22 ?a23 ?l23 ?c23 ?k23 ?a24 ?l24 ?c24 ?k24 ?a25 ?l25 ?c25 ?k25 ?a26 ?l26 ?c26 ?k26 ?a27 ?l27 ?c27 ?k27 ?a28 ?l28 ?c28 ?k28 ?a29 ?l29 ?c29 ?k29 ?z1 ?z2 ?z3 ?z4 ?z5 ?z6 ?z7 ?z8 ?z9 ?z10 ?z11 ?z12 ?z13 ?z14 ?z15 ?z16 ?z17 
  (case a1=>k_is); (case l1=>k_is); (case c1=>k_is); (case k1=>k_is)
  (case a2=>k_is); (case l2=>k_is); (case c2=>k_is); (case k2=>k_is)
  (case a3=>k_is); (case l3=>k_is); (case c3=>k_is); (case k3=>k_is)
  (case a4=>k_is); (case l4=>k_is); (case c4=>k_is); (case k4=>k_is)
  (case a5=>k_is); (case l5=>k_is); (case c5=>k_is); (case k5=>k_is)
  (case a6=>k_is); (case l6=>k_is); (case c6=>k_is); (case k6=>k_is)
  (case a7=>k_is); (case l7=>k_is); (case c7=>k_is); (case k7=>k_is)
  (case a8=>k_is); (case l8=>k_is); (case c8=>k_is); (case k8=>k_is)
  (case a9=>k_is); (case l9=>k_is); (case c9=>k_is); (case k9=>k_is)
  (case a10=>k_is); (case l10=>k_is); (case c10=>k_is); (case k10=>k_is)
  (case a11=>k_is); (case l11=>k_is); (case c11=>k_is); (case k11=>k_is)
  (case a12=>k_is); (case l12=>k_is); (case c12=>k_is); (case k12=>k_is)
  (case a13=>k_is); (case l13=>k_is); (case c13=>k_is); (case k13=>k_is)
  (case a14=>k_is); (case l14=>k_is); (case c14=>k_is); (case k14=>k_is)
  (case a15=>k_is); (case l15=>k_is); (case c15=>k_is); (case k15=>k_is)
  (case a16=>k_is); (case l16=>k_is); (case c16=>k_is); (case k16=>k_is)
  (case a17=>k_is); (case l17=>k_is); (case c17=>k_is); (case k17=>k_is)
  (case a18=>k_is); (case l18=>k_is); (case c18=>k_is); (case k18=>k_is)
  (case a19=>k_is); (case l19=>k_is); (case c19=>k_is); (case k19=>k_is)
  (case a20=>k_is); (case l20=>k_is); (case c20=>k_is); (case k20=>k_is)
  (case a21=>k_is); (case l21=>k_is); (case c21=>k_is); (case k21=>k_is)
  (case a22=>k_is); (case l22=>k_is); (case c22=>k_is); (case k22=>k_is)
  (case a23=>k_is); (case l23=>k_is); (case c23=>k_is); (case k23=>k_is)
  (case a24=>k_is); (case l24=>k_is); (case c24=>k_is); (case k24=>k_is)
  (case a25=>k_is); (case l25=>k_is); (case c25=>k_is); (case k25=>k_is)
  (case a26=>k_is); (case l26=>k_is); (case c26=>k_is); (case k26=>k_is)
  (case a27=>k_is); (case l27=>k_is); (case c27=>k_is); (case k27=>k_is)
  (case a28=>k_is); (case l28=>k_is); (case c28=>k_is); (case k28=>k_is)
  (case a29=>k_is); (case l29=>k_is); (case c29=>k_is); (case k29=>k_is)
  (case z1=>k_is)
  (case z2=>k_is)
  (case z3=>k_is)
  (case z4=>k_is)
  (case z5=>k_is)
  (case z6=>k_is)
  (case z7=>k_is)
  (case z8=>k_is)
  (case z9=>k_is)
  (case z10=>k_is)
  (case z11=>k_is)
  (case z12=>k_is)
  (case z13=>k_is)
  (case z14=>k_is)
  (case z15=>k_is)
  (case z16=>k_is)
  (case z17=>k_is)
end
